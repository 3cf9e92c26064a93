/-
  The specification's Parse. Conditions: the words lie in memory as the text says; the string fits into memory.
-/
import Derived.Test.YtmmphjpakoimcaaDoorA9
set_option linter.unusedVariables false
namespace Go.Proofs.YtmmphjpakoimcaaDoor
open Go Go.Proofs Go.RowKit Go.Lib

theorem splitL_has : ∀ (l : Str), splitL l = if has 44 l = true then bef 44 l :: splitL (aft 44 l) else [l]
  | [] => rfl
  | c :: l => by
    have ih := splitL_has l
    by_cases hc : c = 44
    · subst hc
      simp [splitL, has, bef, aft]
    · have hb : (c == 44) = false := by simpa using hc
      simp only [splitL, if_neg hc, has, hb, Bool.false_or, bef, aft]
      rw [ih]
      cases has 44 l <;> simp
theorem aft_lt (c : UInt8) (l : Str) (h : has c l = true) : (aft c l).length < l.length := by
  have h0 := congrArg List.length (bef_hit c l h)
  simp only [List.length_append, List.length_cons] at h0
  omega
theorem parseN_of {s : Str} {n acc : Nat} {R : Nat × Int} (hR : parseN s n = R) (h : goP n (splitL s) 0 = (acc, 0)) : R = if acc = 0 then (0, 16) else (acc, 0) := by
  rw [← hR]
  unfold parseN
  rw [h]
  simp
theorem parseN_err {s : Str} {n : Nat} {e : Int} {R : Nat × Int} (hR : parseN s n = R) (h : goP n (splitL s) 0 = (0, e)) (he : e ≠ 0) : R = (0, e) := by
  rw [← hR]
  unfold parseN
  rw [h, if_pos he]

set_option maxHeartbeats 8000000 in
set_option maxRecDepth 100000 in
theorem rparse_any (s : ByteArray) (hz : s.size ≤ 4611686018427387904) (N : Int) (w : World) (hE : Words w) (hw6 : 6 < w.heap.size) :
    Calls Tryd.prog 9 #[.string s, .int .i64 N] w (ItemOut (parseM (lst s) N) w) := by
  by_cases hlo : N < 1
  · have : parseM (lst s) N = (0, 3) := if_neg (by omega)
    rw [this]
    go_enter Tryd.func9, Tryd.ntmps9
    go_wp2
    go_ret2
    exact ⟨rfl, Below.refl _ _⟩
  by_cases hhi : 20 < N
  · have : parseM (lst s) N = (0, 3) := if_neg (by omega)
    rw [this]
    go_enter Tryd.func9, Tryd.ntmps9
    go_wp2
    go_ret2
    exact ⟨rfl, Below.refl _ _⟩
  obtain ⟨n, rfl⟩ := natN (show 0 ≤ N by omega)
  have hM : parseM (lst s) (n : Int) = parseN (lst s) n := by
    unfold parseM
    rw [if_pos ⟨by omega, by omega⟩, Int.toNat_natCast]
  rw [hM]
  clear hM
  obtain ⟨R, hR⟩ : ∃ R, parseN (lst s) n = R := ⟨_, rfl⟩
  rw [hR]
  have HR := hid hR
  have HE := hid hE
  have cC := hid (fun s hz w => rcut_any s 44 hz w)
  have cI := hid (fun s hz w h => ritem_any s hz n (by omega) (by omega) w h)
  have hp := powI n (by omega)
  have hpN : 2 ^ n ≤ 1048576 := pow_le (show n ≤ 20 by omega)
  obtain ⟨G, hG⟩ : ∃ G, goP n (splitL (lst s)) 0 = G := ⟨_, rfl⟩
  have HG := hid hG
  have hE6 : Hid (∀ w', Below w.heap.size w w' → Words w') := hid (fun w' hb k hk => (hb.cell (p := ⟨0, k, none⟩) (by show 0 < w.heap.size; omega)).trans (hE k hk))
  clear hR hE hG
  go_enter Tryd.func9, Tryd.ntmps9
  go_wp2
  go_loopw [0, 6, 7] (fun rv sv mv wr => ∃ (r : ByteArray) (acc : Nat) (m : Bool), rv = .string r ∧ sv = .int .i64 (acc : Int) ∧ mv = .bool m ∧ r.size ≤ 4611686018427387904 ∧ acc < 2 ^ n ∧
    Hid ((m = true → goP n (splitL (lst r)) acc = G) ∧ (m = false → G = (acc, 0))) ∧ Hid (Below w.heap.size w wr)) (fun rv _ mv _ => match mv with | .bool true => (match rv with | .string r => r.size + 1 | _ => 0) | _ => 0)
  case atStart => exact ⟨s, 0, true, rfl, rfl, rfl, hz, Nat.two_pow_pos n, hid ⟨fun _ => HG.out, fun h => by simp at h⟩, hid (Below.refl _ _)⟩
  case round =>
    obtain ⟨r, acc, m, rfl, rfl, rfl, hrz, hacc, hgo, hB⟩ := hrel
    cases m with
    | false =>
      have hG := hgo.out.2 rfl
      have hr := parseN_of HR.out (HG.out.trans hG)
      by_cases h0 : acc = 0
      · subst h0
        obtain rfl : R = (0, 16) := by rw [hr, if_pos rfl]
        clear hr hG
        go_wp2
        go_ret2
        exact ⟨rfl, hB.out⟩
      · obtain rfl : R = (acc, 0) := by rw [hr, if_neg h0]
        have hz0 : ((acc : Int) == 0) = false := by simpa using h0
        clear hr hG
        go_wp2
        go_ret2
        exact ⟨rfl, hB.out⟩
    | true =>
      have hgr := hgo.out.1 rfl
      rw [splitL_has] at hgr
      have cC' := cC.out r hrz
      unfold CutOut at cC'
      obtain ⟨A, hA⟩ : ∃ A, ba (bef 44 (lst r)) = A := ⟨_, rfl⟩
      obtain ⟨B, hB'⟩ : ∃ B, ba (aft 44 (lst r)) = B := ⟨_, rfl⟩
      obtain ⟨d, hd⟩ : ∃ d, has 44 (lst r) = d := ⟨_, rfl⟩
      have lA : bef 44 (lst r) = lst A := by rw [← hA]; rfl
      have lB : aft 44 (lst r) = lst B := by rw [← hB']; rfl
      have hAs : A.size ≤ 4611686018427387904 := by
        rw [← hA, ba_size]
        have := bef_le 44 (lst r)
        rw [← Lib.size_eq] at this
        omega
      have hBs : B.size ≤ 4611686018427387904 := by
        rw [← hB', ba_size]
        have := aft_le 44 (lst r)
        rw [← Lib.size_eq] at this
        omega
      have hlt : d = true → B.size < r.size := fun h => by
        rw [← hB', ba_size, Lib.size_eq r]
        exact aft_lt 44 (lst r) (hd.trans h)
      have hrA : d = false → lst r = lst A := fun h => by rw [← lA, (bef_miss 44 (lst r) (hd.trans h)).1]
      rw [hA, hB', hd] at cC'
      rw [hd, lA, lB] at hgr
      have CC := hid cC'
      obtain ⟨I, hI⟩ : ∃ I, itemM (lst A) n = I := ⟨_, rfl⟩
      have hgr2 : (if I.2 ≠ 0 then (0, I.2) else goP n (if d = true then splitL (lst B) else []) (acc ||| I.1)) = G := by
        rw [← hgr, ← hI]
        cases d with
        | true => rfl
        | false =>
          rw [hrA rfl]
          simp only [Bool.false_eq_true, if_false]
          rfl
      have hIl : I.1 < 2 ^ n := by rw [← hI]; exact item_lt _ _
      have hol := Nat.or_lt_two_pow hacc hIl
      have hor := bw_or acc I.1 (by omega) (by omega)
      have cI' := fun w h => cI.out A hAs w h
      rw [hI] at cI'
      have CI := hid cI'
      have HG2 := hid hgr2
      have HL := hid hlt
      clear hgr cC' hA hB' hd lA lB hAs hrA hI hgr2 cI' hlt hgo
      obtain ⟨iv, ie⟩ := I
      dsimp only at hIl hol hor
      unfold ItemOut at CI
      dsimp only at CI
      go_wp2_with fail
      refine (CC.out _).mono ?_
      rintro e w2 ⟨rfl, q, hw2⟩
      have HB2 : Hid (Below w.heap.size w w2) := hid (by rw [hw2]; exact below_drewN hB.out q)
      clear hw2
      by_cases he : ie = 0
      · subst he
        have hG3 : Hid ((d = true → goP n (splitL (lst B)) (acc ||| iv) = G) ∧ (d = false → G = (acc ||| iv, 0))) := hid (by
          have := HG2.out
          rw [if_neg (by simp)] at this
          refine ⟨fun h => ?_, fun h => ?_⟩
          · rw [h, if_pos rfl] at this
            exact this
          · rw [h, if_neg (by simp)] at this
            exact this.symm)
        obtain ⟨O, hO⟩ : ∃ O, acc ||| iv = O := ⟨_, rfl⟩
        rw [hO] at hol hor hG3
        clear hO HG2
        go_wp2_with fail
        refine (CI.out _ (hE6.out _ HB2.out)).mono ?_
        rintro e w3 ⟨rfl, hb3⟩
        have HB3 := hid (HB2.out.trans (hb3.mono HB2.out.size))
        clear hb3
        go_wp2
        go_roundw
        case rel => exact ⟨B, O, d, rfl, rfl, rfl, hBs, hol, hG3, HB3⟩
        case measure =>
          cases d with
          | true => have := HL.out rfl; simp; omega
          | false => simp
      · have hG3 : G = (0, ie) := by rw [← HG2.out, if_pos he]
        obtain rfl := parseN_err HR.out (HG.out.trans hG3) he
        have hne : (ie != 0) = true := by simpa using he
        clear hG3 HG2 hol hor
        go_wp2_with fail
        refine (CI.out _ (hE6.out _ HB2.out)).mono ?_
        rintro e w3 ⟨rfl, hb3⟩
        have HB3 := hid (HB2.out.trans (hb3.mono HB2.out.size))
        clear hb3
        go_wp2
        go_ret2
        exact ⟨rfl, HB3.out⟩
end Go.Proofs.YtmmphjpakoimcaaDoor
