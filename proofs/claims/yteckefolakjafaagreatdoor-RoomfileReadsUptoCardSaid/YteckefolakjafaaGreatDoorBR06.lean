/-
  The specification's item. Conditions: the words lie in memory as the text says; the number of weeks is from 1 to 20.
  The specification's Parse. Conditions: the words lie in memory as the text says; the string fits into memory.
  The text of a set: plain mathematics. No program, no conditions.
  What is written is read: plain mathematics. No program, no conditions.
-/
import Derived.Test.YteckefolakjafaaGreatDoorBR05
set_option linter.unusedVariables false
namespace Go.Proofs.YteckefolakjafaaGreatDoor
open Go Go.Proofs Go.RowKit Go.Lib

theorem span_step (a v : Nat) (h : a ≤ v) (hv : v ≤ 20) : bits .or .i64 ((spanN (a + 1) v : Nat) : Int) (2 ^ v) = ((spanN (a + 1) (v + 1) : Nat) : Int) := by
  rw [or_pow (spanN (a + 1) v) v (spanN_lt _ _) hv]
  congr 1
  have h1 := pow_le h
  unfold spanN
  rw [Nat.add_sub_cancel, Nat.pow_succ]
  omega
theorem span_self (a : Nat) : spanN (a + 1) a = 0 := by unfold spanN; simp

set_option maxHeartbeats 8000000 in
set_option maxRecDepth 100000 in
theorem ritem_any (s : ByteArray) (hz : s.size ≤ 4611686018427387904) (n : Nat) (h1 : 1 ≤ n) (h2 : n ≤ 20) (w : World) (hE : Words w) :
    Calls Tryz.prog 154 #[.string s, .int .i64 (n : Int)] w (ItemOut (itemM (lst s) n) w) := by
  obtain ⟨R, hR⟩ : ∃ R, itemM (lst s) n = R := ⟨_, rfl⟩
  rw [hR]
  have HR := hid hR
  have HE := hid hE
  have cC := hid (fun w => rcut_any s 45 hz w)
  have cS := hid rsmall_any
  have cN := hid (fun k hk w => rnamed_any k n hk h1 h2 w)
  clear hR hE
  go_enter Tryz.func154, Tryz.ntmps154
  go_wp2
  go_loopw [6] (fun iv wr => ∃ k : Nat, iv = .int .i64 (k : Int) ∧ k ≤ 5 ∧ Hid (∀ i, i < k → wordS i ≠ lst s) ∧ Hid (wr = w)) (fun iv _ => 5 - (RowKit.intOf iv).toNat)
  case atStart => exact ⟨0, rfl, by omega, hid (fun i hi => absurd hi (by omega)), by trivial⟩
  case round =>
    obtain ⟨k, rfl, hk, hne, hw⟩ := hrel
    obtain rfl : w = wr := hw.out.symm
    by_cases hlt : k < 5
    · have hltz : (k : Int) < 5 := by omega
      have hc := HE.out k hlt
      obtain ⟨T, hT⟩ : ∃ T : ByteArray, (⟨(wordS k).toArray⟩ : ByteArray) = T := ⟨_, rfl⟩
      have hTl : lst T = wordS k := by rw [← hT]
      rw [hT] at hc
      clear hT
      by_cases he : wordS k = lst s
      · have heq : (s.toList == T.toList) = true := by rw [tl_eq, tl_eq, hTl, he]; simp
        obtain rfl : R = (nmM k n, 0) := by
          rw [← HR.out]
          unfold itemM
          rw [kindOf_some hlt he]
        clear he hTl HR
        go_wp2_with fail
        refine (cN.out k hlt _).mono ?_
        rintro e w' ⟨rfl, rfl⟩
        go_wp2
        go_ret2
        exact ⟨rfl, Below.refl _ _⟩
      · have heq : (s.toList == T.toList) = false := by rw [tl_eq, tl_eq, hTl]; simpa using fun e => he e.symm
        have hnx : Hid (∀ i, i < k + 1 → wordS i ≠ lst s) := hid (fun i hi => by
          rcases Nat.lt_or_ge i k with h | h
          · exact hne.out i h
          · obtain rfl : i = k := by omega
            exact he)
        clear he hTl
        go_wp2
        go_roundw
        case rel => exact ⟨k + 1, by go_num, by omega, hnx, by trivial⟩
        case measure => simp [RowKit.intOf]; omega
    · obtain rfl : k = 5 := by omega
      have hr : numM (lst s) n = R := by
        rw [← HR.out]
        unfold itemM
        rw [kindOf_none hne.out]
      obtain ⟨A, hA⟩ : ∃ A, ba (bef 45 (lst s)) = A := ⟨_, rfl⟩
      obtain ⟨B, hB⟩ : ∃ B, ba (aft 45 (lst s)) = B := ⟨_, rfl⟩
      obtain ⟨d, hd⟩ : ∃ d, has 45 (lst s) = d := ⟨_, rfl⟩
      have lA : bef 45 (lst s) = lst A := by rw [← hA]; rfl
      have lB : aft 45 (lst s) = lst B := by rw [← hB]; rfl
      have cC' := cC.out
      unfold CutOut at cC'
      rw [hA, hB, hd] at cC'
      have CC := hid cC'
      have cX := hid (fun w => cS.out A w)
      have cY := hid (fun w => cS.out B w)
      obtain ⟨x, hx⟩ : ∃ x, smallN (lst A) = x := ⟨_, rfl⟩
      obtain ⟨y, hy⟩ : ∃ y, smallN (lst B) = y := ⟨_, rfl⟩
      have hr2 : (if x = 0 ∨ (if d = true then y else x) = 0 then ((0 : Nat), (4 : Int)) else if (if d = true then y else x) < x ∨ n < (if d = true then y else x) then (0, 3) else (spanN x (if d = true then y else x), 0)) = R := by
        rw [← hr]
        unfold numM fromN toN
        rw [lA, lB, hd, hx, hy]
      have cX' := cX.out
      have cY' := cY.out
      rw [hx] at cX'
      rw [hy] at cY'
      have CX := hid cX'
      have CY := hid cY'
      have HR2 := hid hr2
      have hyl : y < 100 := by rw [← hy]; exact smallN_lt _
      have hxl : x < 100 := by rw [← hx]; exact smallN_lt _
      obtain ⟨z, hzz⟩ : ∃ z, (if d = true then y else x) = z := ⟨_, rfl⟩
      have HR3 := HR2.out
      rw [hzz] at HR3
      have HRZ := hid HR3
      have hzl : z < 100 := by rw [← hzz]; split <;> omega
      have hdz : (d = true ∧ Hid (z = y)) ∨ (d = false ∧ Hid (z = x)) := by
        cases d with
        | true => exact .inl ⟨rfl, hid hzz.symm⟩
        | false => exact .inr ⟨rfl, hid hzz.symm⟩
      clear hr hA hB hd lA lB cC cC' cX cY hx hy hr2 cX' cY' HR HR2 HR3 hzz hne cS cN
      rcases (show (x = 0 ∨ z = 0) ∨ (1 ≤ x ∧ 1 ≤ z) by omega) with hbad | ⟨hx1, hz1⟩
      · obtain rfl : R = (0, 4) := by rw [← HRZ.out, if_pos hbad]
        clear HRZ
        rcases (show x = 0 ∨ (1 ≤ x ∧ z = 0) by omega) with hx0 | ⟨hx0, hz0⟩
        · subst hx0
          clear hbad
          rcases hdz with ⟨rfl, hzy⟩ | ⟨rfl, hzy⟩
          · go_wp2_with fail
            refine (CC.out _).mono ?_
            rintro e w2 ⟨rfl, q, hw2⟩
            have HB2 : Hid (Below w.heap.size w w2) := hid (by rw [hw2]; exact below_drewN (Below.refl _ _) q)
            clear hw2
            go_wp2_with fail
            refine (CX.out _).mono ?_
            rintro e w3 ⟨rfl, rfl⟩
            go_wp2_with fail
            refine (CY.out _).mono ?_
            rintro e w3 ⟨rfl, rfl⟩
            go_wp2
            go_ret2
            exact ⟨rfl, HB2.out⟩
          · go_wp2_with fail
            refine (CC.out _).mono ?_
            rintro e w2 ⟨rfl, q, hw2⟩
            have HB2 : Hid (Below w.heap.size w w2) := hid (by rw [hw2]; exact below_drewN (Below.refl _ _) q)
            clear hw2
            go_wp2_with fail
            refine (CX.out _).mono ?_
            rintro e w3 ⟨rfl, rfl⟩
            go_wp2
            go_ret2
            exact ⟨rfl, HB2.out⟩
        · have hxb : ((x : Int) == 0) = false := by simp; omega
          rcases hdz with ⟨rfl, hzy⟩ | ⟨rfl, hzy⟩
          · obtain rfl : y = 0 := by rw [← hzy.out, hz0]
            clear hbad hz0
            go_wp2_with fail
            refine (CC.out _).mono ?_
            rintro e w2 ⟨rfl, q, hw2⟩
            have HB2 : Hid (Below w.heap.size w w2) := hid (by rw [hw2]; exact below_drewN (Below.refl _ _) q)
            clear hw2
            go_wp2_with fail
            refine (CX.out _).mono ?_
            rintro e w3 ⟨rfl, rfl⟩
            go_wp2_with fail
            refine (CY.out _).mono ?_
            rintro e w3 ⟨rfl, rfl⟩
            go_wp2
            go_ret2
            exact ⟨rfl, HB2.out⟩
          · exact absurd hzy.out (by omega)
      · have HRZ2 : Hid ((if z < x ∨ n < z then ((0 : Nat), (3 : Int)) else (spanN x z, 0)) = R) := hid (by rw [← HRZ.out, if_neg (show ¬ (x = 0 ∨ z = 0) by omega)])
        clear HRZ
        have hxb : ((x : Int) == 0) = false := by simp; omega
        have hzb : ((z : Int) == 0) = false := by simp; omega
        have CZ : Hid (d = true → ∀ w, Calls Tryz.prog 118 #[.string B] w fun e w' => e = .returned (.int .i64 (z : Int)) ∧ w' = w) := hid (fun hd w => by
          rcases hdz with ⟨_, hzy⟩ | ⟨h, _⟩
          · rw [hzy.out]; exact CY.out w
          · rw [hd] at h; simp at h)
        have hdx : d = false → z = x := fun hd => by
          rcases hdz with ⟨h, _⟩ | ⟨_, hzy⟩
          · rw [hd] at h; simp at h
          · exact hzy.out
        have HDX := hid hdx
        clear hdz hdx CY
        by_cases hxn : n < x
        · have hi1 : (n : Int) < (x : Int) := by omega
          obtain rfl : R = (0, 3) := by rw [← HRZ2.out, if_pos (by omega)]
          clear HRZ2
          cases d with
          | true =>
            have CZt := hid (CZ.out rfl)
            go_wp2_with fail
            refine (CC.out _).mono ?_
            rintro e w2 ⟨rfl, q, hw2⟩
            have HB2 : Hid (Below w.heap.size w w2) := hid (by rw [hw2]; exact below_drewN (Below.refl _ _) q)
            clear hw2
            go_wp2_with fail
            refine (CX.out _).mono ?_
            rintro e w3 ⟨rfl, rfl⟩
            go_wp2_with fail
            refine (CZt.out _).mono ?_
            rintro e w3 ⟨rfl, rfl⟩
            go_wp2
            go_ret2
            exact ⟨rfl, HB2.out⟩
          | false =>
            go_wp2_with fail
            refine (CC.out _).mono ?_
            rintro e w2 ⟨rfl, q, hw2⟩
            have HB2 : Hid (Below w.heap.size w w2) := hid (by rw [hw2]; exact below_drewN (Below.refl _ _) q)
            clear hw2
            go_wp2_with fail
            refine (CX.out _).mono ?_
            rintro e w3 ⟨rfl, rfl⟩
            go_wp2
            go_ret2
            exact ⟨rfl, HB2.out⟩
        · have hi1 : ¬ (n : Int) < (x : Int) := by omega
          by_cases hzn : n < z
          · have hi2 : (n : Int) < (z : Int) := by omega
            obtain rfl : R = (0, 3) := by rw [← HRZ2.out, if_pos (by omega)]
            clear HRZ2
            cases d with
            | true =>
              have CZt := hid (CZ.out rfl)
              go_wp2_with fail
              refine (CC.out _).mono ?_
              rintro e w2 ⟨rfl, q, hw2⟩
              have HB2 : Hid (Below w.heap.size w w2) := hid (by rw [hw2]; exact below_drewN (Below.refl _ _) q)
              clear hw2
              go_wp2_with fail
              refine (CX.out _).mono ?_
              rintro e w3 ⟨rfl, rfl⟩
              go_wp2_with fail
              refine (CZt.out _).mono ?_
              rintro e w3 ⟨rfl, rfl⟩
              go_wp2
              go_ret2
              exact ⟨rfl, HB2.out⟩
            | false =>
              have := HDX.out rfl
              omega
          · have hi2 : ¬ (n : Int) < (z : Int) := by omega
            by_cases hzx : z < x
            · have hi3 : (z : Int) < (x : Int) := by omega
              obtain rfl : R = (0, 3) := by rw [← HRZ2.out, if_pos (by omega)]
              clear HRZ2
              cases d with
              | true =>
                have CZt := hid (CZ.out rfl)
                go_wp2_with fail
                refine (CC.out _).mono ?_
                rintro e w2 ⟨rfl, q, hw2⟩
                have HB2 : Hid (Below w.heap.size w w2) := hid (by rw [hw2]; exact below_drewN (Below.refl _ _) q)
                clear hw2
                go_wp2_with fail
                refine (CX.out _).mono ?_
                rintro e w3 ⟨rfl, rfl⟩
                go_wp2_with fail
                refine (CZt.out _).mono ?_
                rintro e w3 ⟨rfl, rfl⟩
                go_wp2
                go_ret2
                exact ⟨rfl, HB2.out⟩
              | false =>
                have := HDX.out rfl
                omega
            · have hi3 : ¬ (z : Int) < (x : Int) := by omega
              have hr : R = (spanN x z, 0) := by rw [← HRZ2.out, if_neg (by omega)]
              clear HRZ2
              obtain ⟨a, rfl⟩ : ∃ a, x = a + 1 := ⟨x - 1, by omega⟩
              have hca : ((a + 1 : Nat) : Int) = (a : Int) + 1 := by omega
              have CX' := CX.out
              rw [hca] at CX' hi1 hi3 hxb
              have CX2 := hid CX'
              clear CX'
              cases d with
              | true =>
                have CZt := hid (CZ.out rfl)
                go_wp2_with fail
                refine (CC.out _).mono ?_
                rintro e w2 ⟨rfl, q, hw2⟩
                have HB2 : Hid (Below w.heap.size w w2) := hid (by rw [hw2]; exact below_drewN (Below.refl _ _) q)
                clear hw2
                go_wp2_with fail
                refine (CX2.out _).mono ?_
                rintro e w3 ⟨rfl, rfl⟩
                go_wp2_with fail
                refine (CZt.out _).mono ?_
                rintro e w3 ⟨rfl, rfl⟩
                go_wp2
                have HRS := hid hr
                clear hr
                go_loopw [12, 13] (fun sv iv wr => ∃ v : Nat, iv = .int .i64 ((v : Int) + 1) ∧ a ≤ v ∧ v ≤ z ∧ sv = .int .i64 ((spanN (a + 1) v : Nat) : Int) ∧ Hid (Below w.heap.size w wr)) (fun _ iv _ => z + 1 - (RowKit.intOf iv).toNat)
                case atStart => exact ⟨a, rfl, by omega, by omega, by rw [span_self]; rfl, HB2⟩
                case round =>
                  obtain ⟨v, rfl, hv1, hv2, rfl, hB⟩ := hrel
                  by_cases hvz : v < z
                  · have hvi : (v : Int) + 1 ≤ (z : Int) := by omega
                    have e1 : IntKind.i64.wrap ((v : Int) + 1 - 1) = (v : Int) := by rw [Int.add_sub_cancel]; exact IntWalk.i64_in _ (by omega)
                    have hor := span_step a v hv1 (by omega)
                    have hpj := powI v (by omega)
                    go_wp2
                    go_roundw
                    case rel => exact ⟨v + 1, by simp, by omega, by omega, rfl, hB⟩
                    case measure => simp [RowKit.intOf]; omega
                  · have hvi : ¬ (v : Int) + 1 ≤ (z : Int) := by omega
                    obtain rfl : v = z := by omega
                    go_wp2
                    go_ret2
                    exact ⟨by rw [HRS.out]; rfl, hB.out⟩
              | false =>
                obtain rfl : z = a + 1 := HDX.out rfl
                go_wp2_with fail
                refine (CC.out _).mono ?_
                rintro e w2 ⟨rfl, q, hw2⟩
                have HB2 : Hid (Below w.heap.size w w2) := hid (by rw [hw2]; exact below_drewN (Below.refl _ _) q)
                clear hw2
                rw [hca] at hi2 hi3 hzb
                go_wp2_with fail
                refine (CX2.out _).mono ?_
                rintro e w3 ⟨rfl, rfl⟩
                go_wp2
                have HRS := hid hr
                clear hr
                go_loopw [12, 13] (fun sv iv wr => ∃ v : Nat, iv = .int .i64 ((v : Int) + 1) ∧ a ≤ v ∧ v ≤ a + 1 ∧ sv = .int .i64 ((spanN (a + 1) v : Nat) : Int) ∧ Hid (Below w.heap.size w wr)) (fun _ iv _ => a + 2 - (RowKit.intOf iv).toNat)
                case atStart => exact ⟨a, rfl, by omega, by omega, by rw [span_self]; rfl, HB2⟩
                case round =>
                  obtain ⟨v, rfl, hv1, hv2, rfl, hB⟩ := hrel
                  by_cases hvz : v < a + 1
                  · have hvi : (v : Int) + 1 ≤ (a : Int) + 1 := by omega
                    have hvi2 : (v : Int) ≤ (a : Int) := by omega
                    have e1 : IntKind.i64.wrap ((v : Int) + 1 - 1) = (v : Int) := by rw [Int.add_sub_cancel]; exact IntWalk.i64_in _ (by omega)
                    have hor := span_step a v hv1 (by omega)
                    have hpj := powI v (by omega)
                    go_wp2
                    go_roundw
                    case rel => exact ⟨v + 1, by simp, by omega, by omega, rfl, hB⟩
                    case measure => simp [RowKit.intOf]; omega
                  · have hvi : ¬ (v : Int) + 1 ≤ (a : Int) + 1 := by omega
                    have hvi2 : ¬ (v : Int) ≤ (a : Int) := by omega
                    obtain rfl : v = a + 1 := by omega
                    go_wp2
                    go_ret2
                    exact ⟨by rw [HRS.out]; rfl, hB.out⟩
end Go.Proofs.YteckefolakjafaaGreatDoor

set_option linter.unusedVariables false
namespace Go.Proofs.YteckefolakjafaaGreatDoor
open Go Go.Proofs Go.RowKit Go.Lib

theorem splitL_has : ∀ (l : Str), splitL l = if has 44 l = true then bef 44 l :: splitL (aft 44 l) else [l]
  | [] => rfl
  | c :: l => by
    have ih := splitL_has l
    by_cases hc : c = 44
    · subst hc
      simp [splitL, has, bef, aft]
    · have hb : (c == 44) = false := by simpa using hc
      simp only [splitL, if_neg hc, has, hb, Bool.false_or, bef, aft]
      rw [ih]
      cases has 44 l <;> simp
theorem aft_lt (c : UInt8) (l : Str) (h : has c l = true) : (aft c l).length < l.length := by
  have h0 := congrArg List.length (bef_hit c l h)
  simp only [List.length_append, List.length_cons] at h0
  omega
theorem parseN_of {s : Str} {n acc : Nat} {R : Nat × Int} (hR : parseN s n = R) (h : goP n (splitL s) 0 = (acc, 0)) : R = if acc = 0 then (0, 16) else (acc, 0) := by
  rw [← hR]
  unfold parseN
  rw [h]
  simp
theorem parseN_err {s : Str} {n : Nat} {e : Int} {R : Nat × Int} (hR : parseN s n = R) (h : goP n (splitL s) 0 = (0, e)) (he : e ≠ 0) : R = (0, e) := by
  rw [← hR]
  unfold parseN
  rw [h, if_pos he]

set_option maxHeartbeats 8000000 in
set_option maxRecDepth 100000 in
theorem rparse_any (s : ByteArray) (hz : s.size ≤ 4611686018427387904) (N : Int) (w : World) (hE : Words w) (hw6 : 6 < w.heap.size) :
    Calls Tryz.prog 120 #[.string s, .int .i64 N] w (ItemOut (parseM (lst s) N) w) := by
  by_cases hlo : N < 1
  · have : parseM (lst s) N = (0, 3) := if_neg (by omega)
    rw [this]
    go_enter Tryz.func120, Tryz.ntmps120
    go_wp2
    go_ret2
    exact ⟨rfl, Below.refl _ _⟩
  by_cases hhi : 20 < N
  · have : parseM (lst s) N = (0, 3) := if_neg (by omega)
    rw [this]
    go_enter Tryz.func120, Tryz.ntmps120
    go_wp2
    go_ret2
    exact ⟨rfl, Below.refl _ _⟩
  obtain ⟨n, rfl⟩ := natN (show 0 ≤ N by omega)
  have hM : parseM (lst s) (n : Int) = parseN (lst s) n := by
    unfold parseM
    rw [if_pos ⟨by omega, by omega⟩, Int.toNat_natCast]
  rw [hM]
  clear hM
  obtain ⟨R, hR⟩ : ∃ R, parseN (lst s) n = R := ⟨_, rfl⟩
  rw [hR]
  have HR := hid hR
  have HE := hid hE
  have cC := hid (fun s hz w => rcut_any s 44 hz w)
  have cI := hid (fun s hz w h => ritem_any s hz n (by omega) (by omega) w h)
  have hp := powI n (by omega)
  have hpN : 2 ^ n ≤ 1048576 := pow_le (show n ≤ 20 by omega)
  obtain ⟨G, hG⟩ : ∃ G, goP n (splitL (lst s)) 0 = G := ⟨_, rfl⟩
  have HG := hid hG
  have hE6 : Hid (∀ w', Below w.heap.size w w' → Words w') := hid (fun w' hb k hk => (hb.cell (p := ⟨2, k, none⟩) (by show 2 < w.heap.size; omega)).trans (hE k hk))
  clear hR hE hG
  go_enter Tryz.func120, Tryz.ntmps120
  go_wp2
  go_loopw [0, 6, 7] (fun rv sv mv wr => ∃ (r : ByteArray) (acc : Nat) (m : Bool), rv = .string r ∧ sv = .int .i64 (acc : Int) ∧ mv = .bool m ∧ r.size ≤ 4611686018427387904 ∧ acc < 2 ^ n ∧
    Hid ((m = true → goP n (splitL (lst r)) acc = G) ∧ (m = false → G = (acc, 0))) ∧ Hid (Below w.heap.size w wr)) (fun rv _ mv _ => match mv with | .bool true => (match rv with | .string r => r.size + 1 | _ => 0) | _ => 0)
  case atStart => exact ⟨s, 0, true, rfl, rfl, rfl, hz, Nat.two_pow_pos n, hid ⟨fun _ => HG.out, fun h => by simp at h⟩, hid (Below.refl _ _)⟩
  case round =>
    obtain ⟨r, acc, m, rfl, rfl, rfl, hrz, hacc, hgo, hB⟩ := hrel
    cases m with
    | false =>
      have hG := hgo.out.2 rfl
      have hr := parseN_of HR.out (HG.out.trans hG)
      by_cases h0 : acc = 0
      · subst h0
        obtain rfl : R = (0, 16) := by rw [hr, if_pos rfl]
        clear hr hG
        go_wp2
        go_ret2
        exact ⟨rfl, hB.out⟩
      · obtain rfl : R = (acc, 0) := by rw [hr, if_neg h0]
        have hz0 : ((acc : Int) == 0) = false := by simpa using h0
        clear hr hG
        go_wp2
        go_ret2
        exact ⟨rfl, hB.out⟩
    | true =>
      have hgr := hgo.out.1 rfl
      rw [splitL_has] at hgr
      have cC' := cC.out r hrz
      unfold CutOut at cC'
      obtain ⟨A, hA⟩ : ∃ A, ba (bef 44 (lst r)) = A := ⟨_, rfl⟩
      obtain ⟨B, hB'⟩ : ∃ B, ba (aft 44 (lst r)) = B := ⟨_, rfl⟩
      obtain ⟨d, hd⟩ : ∃ d, has 44 (lst r) = d := ⟨_, rfl⟩
      have lA : bef 44 (lst r) = lst A := by rw [← hA]; rfl
      have lB : aft 44 (lst r) = lst B := by rw [← hB']; rfl
      have hAs : A.size ≤ 4611686018427387904 := by
        rw [← hA, ba_size]
        have := bef_le 44 (lst r)
        rw [← Lib.size_eq] at this
        omega
      have hBs : B.size ≤ 4611686018427387904 := by
        rw [← hB', ba_size]
        have := aft_le 44 (lst r)
        rw [← Lib.size_eq] at this
        omega
      have hlt : d = true → B.size < r.size := fun h => by
        rw [← hB', ba_size, Lib.size_eq r]
        exact aft_lt 44 (lst r) (hd.trans h)
      have hrA : d = false → lst r = lst A := fun h => by rw [← lA, (bef_miss 44 (lst r) (hd.trans h)).1]
      rw [hA, hB', hd] at cC'
      rw [hd, lA, lB] at hgr
      have CC := hid cC'
      obtain ⟨I, hI⟩ : ∃ I, itemM (lst A) n = I := ⟨_, rfl⟩
      have hgr2 : (if I.2 ≠ 0 then (0, I.2) else goP n (if d = true then splitL (lst B) else []) (acc ||| I.1)) = G := by
        rw [← hgr, ← hI]
        cases d with
        | true => rfl
        | false =>
          rw [hrA rfl]
          simp only [Bool.false_eq_true, if_false]
          rfl
      have hIl : I.1 < 2 ^ n := by rw [← hI]; exact item_lt _ _
      have hol := Nat.or_lt_two_pow hacc hIl
      have hor := bw_or acc I.1 (by omega) (by omega)
      have cI' := fun w h => cI.out A hAs w h
      rw [hI] at cI'
      have CI := hid cI'
      have HG2 := hid hgr2
      have HL := hid hlt
      clear hgr cC' hA hB' hd lA lB hAs hrA hI hgr2 cI' hlt hgo
      obtain ⟨iv, ie⟩ := I
      dsimp only at hIl hol hor
      unfold ItemOut at CI
      dsimp only at CI
      go_wp2_with fail
      refine (CC.out _).mono ?_
      rintro e w2 ⟨rfl, q, hw2⟩
      have HB2 : Hid (Below w.heap.size w w2) := hid (by rw [hw2]; exact below_drewN hB.out q)
      clear hw2
      by_cases he : ie = 0
      · subst he
        have hG3 : Hid ((d = true → goP n (splitL (lst B)) (acc ||| iv) = G) ∧ (d = false → G = (acc ||| iv, 0))) := hid (by
          have := HG2.out
          rw [if_neg (by simp)] at this
          refine ⟨fun h => ?_, fun h => ?_⟩
          · rw [h, if_pos rfl] at this
            exact this
          · rw [h, if_neg (by simp)] at this
            exact this.symm)
        obtain ⟨O, hO⟩ : ∃ O, acc ||| iv = O := ⟨_, rfl⟩
        rw [hO] at hol hor hG3
        clear hO HG2
        go_wp2_with fail
        refine (CI.out _ (hE6.out _ HB2.out)).mono ?_
        rintro e w3 ⟨rfl, hb3⟩
        have HB3 := hid (HB2.out.trans (hb3.mono HB2.out.size))
        clear hb3
        go_wp2
        go_roundw
        case rel => exact ⟨B, O, d, rfl, rfl, rfl, hBs, hol, hG3, HB3⟩
        case measure =>
          cases d with
          | true => have := HL.out rfl; simp; omega
          | false => simp
      · have hG3 : G = (0, ie) := by rw [← HG2.out, if_pos he]
        obtain rfl := parseN_err HR.out (HG.out.trans hG3) he
        have hne : (ie != 0) = true := by simpa using he
        clear hG3 HG2 hol hor
        go_wp2_with fail
        refine (CI.out _ (hE6.out _ HB2.out)).mono ?_
        rintro e w3 ⟨rfl, hb3⟩
        have HB3 := hid (HB2.out.trans (hb3.mono HB2.out.size))
        clear hb3
        go_wp2
        go_ret2
        exact ⟨rfl, HB3.out⟩
end Go.Proofs.YteckefolakjafaaGreatDoor

set_option linter.unusedVariables false
namespace Go.Proofs.YteckefolakjafaaGreatDoor
open Go Go.Lib

theorem dec_dec2 (u : Nat) (h : u < 100) : decDigits u = dec2 u := by
  unfold dec2
  by_cases hu : u < 10
  · rw [if_pos hu]
    exact Lib.decDigits_one hu
  · rw [if_neg hu, decDigits, dif_neg hu, Lib.decDigits_one (show u / 10 < 10 by omega)]
    rfl
/-- The weeks from the i-th bit on, of k bits. -/
def wF (s : Nat) : Nat → Nat → List Nat
  | _, 0 => []
  | i, k + 1 => if bitB s i = true then (i + 1) :: wF s (i + 1) k else wF s (i + 1) k
theorem wF_yes {s i k : Nat} (h : bitB s i = true) : wF s i (k + 1) = (i + 1) :: wF s (i + 1) k := if_pos h
theorem wF_no {s i k : Nat} (h : bitB s i = false) : wF s i (k + 1) = wF s (i + 1) k := if_neg (by rw [h]; simp)
theorem weeksP_wF (s : Nat) : ∀ k i, weeksP s i ++ wF s i k = weeksP s (i + k)
  | 0, i => by simp [wF]
  | k + 1, i => by
    have ih := weeksP_wF s k (i + 1)
    rw [show i + (k + 1) = i + 1 + k by omega, ← ih]
    cases h : bitB s i with
    | true => rw [wF_yes h, weeksP_yes h, List.append_assoc]; rfl
    | false => rw [wF_no h, weeksP_no h]
theorem wF_all (s n : Nat) : wF s 0 n = weeksP s n := by
  have := weeksP_wF s n 0
  rw [Nat.zero_add] at this
  exact this
theorem wF_gt (s : Nat) : ∀ k i x, x ∈ wF s i k → i < x
  | 0, i, x, h => by simp [wF] at h
  | k + 1, i, x, h => by
    cases hb : bitB s i with
    | true =>
      rw [wF_yes hb] at h
      rcases List.mem_cons.1 h with rfl | h
      · omega
      · have := wF_gt s k (i + 1) x h; omega
    | false =>
      rw [wF_no hb] at h
      have := wF_gt s k (i + 1) x h
      omega
/-- How many bits from the i-th on are set, of k. -/
def cB (s : Nat) : Nat → Nat → Nat
  | _, 0 => 0
  | i, k + 1 => if bitB s i = true then cB s (i + 1) k + 1 else 0
theorem cB_le (s : Nat) : ∀ k i, cB s i k ≤ k
  | 0, i => Nat.le_refl _
  | k + 1, i => by
    have := cB_le s k (i + 1)
    unfold cB
    split <;> omega
theorem cB_bit (s : Nat) : ∀ k i j, j < cB s i k → bitB s (i + j) = true
  | 0, i, j, h => by simp [cB] at h
  | k + 1, i, j, h => by
    unfold cB at h
    split at h
    · rename_i hb
      cases j with
      | zero => exact hb
      | succ j =>
        have := cB_bit s k (i + 1) j (by omega)
        rw [show i + (j + 1) = i + 1 + j by omega]
        exact this
    · omega
theorem cB_end (s : Nat) : ∀ k i, cB s i k < k → bitB s (i + cB s i k) = false
  | 0, i, h => by omega
  | k + 1, i, h => by
    unfold cB at h ⊢
    split at h
    · rename_i hb
      rw [if_pos hb]
      have := cB_end s k (i + 1) (by omega)
      rw [show i + (cB s (i + 1) k + 1) = i + 1 + cB s (i + 1) k by omega]
      exact this
    · rename_i hb
      rw [if_neg hb]
      simpa using hb
theorem cnt_wF (s : Nat) : ∀ k i, cnt i (wF s i k) = cB s i k
  | 0, i => rfl
  | k + 1, i => by
    cases hb : bitB s i with
    | true =>
      rw [wF_yes hb]
      unfold cnt cB
      rw [if_pos rfl, if_pos hb, cnt_wF s k (i + 1)]
    | false =>
      rw [wF_no hb]
      have e : cB s i (k + 1) = 0 := if_neg (by rw [hb]; simp)
      rw [e]
      cases hl : wF s (i + 1) k with
      | nil => rfl
      | cons x l =>
        have := wF_gt s k (i + 1) x (by rw [hl]; simp)
        unfold cnt
        rw [if_neg (by omega)]
theorem drop_wF (s : Nat) : ∀ k i c, c ≤ cB s i k → (wF s i k).drop c = wF s (i + c) (k - c)
  | k, i, 0, _ => by simp
  | 0, i, c + 1, h => by simp [cB] at h
  | k + 1, i, c + 1, h => by
    unfold cB at h
    split at h
    · rename_i hb
      rw [wF_yes hb, List.drop_succ_cons, drop_wF s k (i + 1) c (by omega)]
      congr 1 <;> omega
    · omega
theorem runs_nil : runs [] = [] := by rw [runs]
theorem runs_cons (a : Nat) (l : List Nat) : runs (a :: l) = (a, a + cnt a l) :: runs (l.drop (cnt a l)) := by rw [runs]
/-- The items that are left. -/
def itemsF (s i k : Nat) : List Str := (runs (wF s i k)).map fun r => itemT r.1 r.2
theorem items_no {s i k : Nat} (h : bitB s i = false) : itemsF s i (k + 1) = itemsF s (i + 1) k := by unfold itemsF; rw [wF_no h]
theorem items_yes {s i k : Nat} (h : bitB s i = true) : itemsF s i (k + 1) = itemT (i + 1) (i + 1 + cB s (i + 1) k) :: itemsF s (i + 1 + cB s (i + 1) k) (k - cB s (i + 1) k) := by
  unfold itemsF
  rw [wF_yes h, runs_cons, cnt_wF, drop_wF s k (i + 1) _ (Nat.le_refl _)]
  rfl
/-- Behind a run the next bit is not set. -/
theorem items_skip {s i k : Nat} : itemsF s (i + cB s i k) (k - cB s i k) = itemsF s (i + cB s i k + 1) (k - cB s i k - 1) := by
  have hle := cB_le s k i
  rcases Nat.lt_or_ge (cB s i k) k with h | h
  · have hb := cB_end s k i h
    obtain ⟨m, hm⟩ : ∃ m, k - cB s i k = m + 1 := ⟨k - cB s i k - 1, by omega⟩
    rw [hm, items_no hb]
    rfl
  · have : k - cB s i k = 0 := by omega
    rw [this]
    rfl
theorem textM_items {s n : Nat} (hs : s < 2 ^ n) (hn : n ≤ 20) : textM s = joinC (itemsF s 0 n) := by
  unfold textM itemsF
  rw [wF_all, show (20 : Nat) = n + (20 - n) by omega, weeksP_top hs]
theorem joinC_snoc : ∀ (l : List Str) (x : Str), l ≠ [] → joinC (l ++ [x]) = joinC l ++ 44 :: x
  | [], x, h => absurd rfl h
  | [a], x, _ => by simp [joinC]
  | a :: b :: l, x, _ => by
    have ih := joinC_snoc (b :: l) x (by simp)
    have e1 : joinC (a :: b :: l ++ [x]) = a ++ 44 :: joinC ((b :: l) ++ [x]) := rfl
    have e2 : joinC (a :: b :: l) = a ++ 44 :: joinC (b :: l) := rfl
    rw [e1, ih, e2]
    simp
theorem dec2_ne (u : Nat) : dec2 u ≠ [] := by unfold dec2; split <;> simp
theorem itemT_ne (a b : Nat) : itemT a b ≠ [] := by
  have := dec2_ne a
  unfold itemT
  split
  · exact this
  · simp [this]
theorem joinC_ne : ∀ (l : List Str), (∀ x ∈ l, x ≠ []) → l ≠ [] → joinC l ≠ []
  | [], _, h => absurd rfl h
  | [a], h, _ => h a (by simp)
  | a :: b :: l, h, _ => by simp [joinC, h a (by simp)]
theorem dec2_len (u : Nat) : (dec2 u).length ≤ 2 := by unfold dec2; split <;> simp
theorem itemT_len (a b : Nat) : (itemT a b).length ≤ 5 := by
  have h1 := dec2_len a
  have h2 := dec2_len b
  unfold itemT
  split <;> simp <;> omega
theorem joinC_len : ∀ (l : List Str), (∀ x ∈ l, x.length ≤ 5) → (joinC l).length ≤ 6 * l.length
  | [], _ => by simp [joinC]
  | [a], h => by have := h a (by simp); simp [joinC]; omega
  | a :: b :: l, h => by
    have := joinC_len (b :: l) (fun x hx => h x (List.mem_cons_of_mem _ hx))
    have h1 := h a (by simp)
    simp [joinC] at this ⊢
    omega
theorem joinC_lib : ∀ (l : List Str), Lib.join l [44] = joinC l
  | [] => rfl
  | [a] => by rw [Lib.join_one]; rfl
  | a :: b :: l => by
    have ih := joinC_lib (b :: l)
    have e : Lib.join (a :: b :: l) [44] = a ++ 44 :: Lib.join (b :: l) [44] := by
      unfold Lib.join
      simp [List.intercalate]
    rw [e, ih]
    rfl
theorem runs_len : ∀ (k : Nat) (l : List Nat), l.length ≤ k → (runs l).length ≤ l.length
  | 0, l, hl => by
    obtain rfl : l = [] := List.eq_nil_of_length_eq_zero (by omega)
    simp [runs_nil]
  | k + 1, [], hl => by simp [runs_nil]
  | k + 1, a :: l, hl => by
    rw [runs_cons]
    have := runs_len k (l.drop (cnt a l)) (by simp at hl ⊢; omega)
    simp at this ⊢
    omega
end Go.Proofs.YteckefolakjafaaGreatDoor

set_option linter.unusedVariables false
namespace Go.Proofs.YteckefolakjafaaGreatDoor
open Go Go.Lib

theorem split_one : ∀ (x : Str), has 44 x = false → splitL x = [x] := fun x h => by rw [splitL_has, if_neg (by rw [h]; simp)]
theorem split_app : ∀ (x y : Str), splitL (x ++ 44 :: y) = splitL x ++ splitL y
  | [], y => by simp [splitL]
  | c :: x, y => by
    have ih := split_app x y
    rw [List.cons_append]
    by_cases hc : c = 44
    · subst hc
      simp only [splitL, if_true, ih, List.cons_append]
    · simp only [splitL, if_neg hc, ih]
      have hne : splitL x ≠ [] := by
        cases x with
        | nil => simp [splitL]
        | cons c s => simp only [splitL]; split <;> simp
      obtain ⟨a, t, hat⟩ : ∃ a t, splitL x = a :: t := by cases hs : splitL x with | nil => exact absurd hs hne | cons a t => exact ⟨a, t, rfl⟩
      rw [hat]
      simp
theorem split_join : ∀ (l : List Str), l ≠ [] → (∀ x ∈ l, has 44 x = false) → splitL (joinC l) = l
  | [], h, _ => absurd rfl h
  | [x], _, h => split_one x (h x (by simp))
  | x :: y :: l, _, h => by
    have ih := split_join (y :: l) (by simp) (fun z hz => h z (List.mem_cons_of_mem _ hz))
    have e : joinC (x :: y :: l) = x ++ 44 :: joinC (y :: l) := rfl
    rw [e, split_app, ih, split_one x (h x (by simp))]
    rfl
theorem item_table : ∀ a b : Fin 21, 1 ≤ a.val → a.val ≤ b.val → kindOf (itemT a.val b.val) = none ∧ fromN (itemT a.val b.val) = a.val ∧ toN (itemT a.val b.val) = b.val ∧ has 44 (itemT a.val b.val) = false := by decide +kernel
theorem item_text {a b n : Nat} (h1 : 1 ≤ a) (h2 : a ≤ b) (h3 : b ≤ n) (h4 : n ≤ 20) : itemM (itemT a b) n = (spanN a b, 0) ∧ has 44 (itemT a b) = false := by
  obtain ⟨k1, k2, k3, k4⟩ := item_table ⟨a, by omega⟩ ⟨b, by omega⟩ h1 h2
  dsimp only at k1 k2 k3 k4
  refine ⟨?_, k4⟩
  unfold itemM
  rw [k1]
  show numM (itemT a b) n = _
  unfold numM
  rw [k2, k3, if_neg (by omega), if_neg (by omega)]
def orR (rs : List (Nat × Nat)) (acc : Nat) : Nat := rs.foldl (fun acc r => acc ||| spanN r.1 r.2) acc
theorem go_runs {n : Nat} (hn : n ≤ 20) : ∀ (rs : List (Nat × Nat)) (acc : Nat), (∀ r ∈ rs, 1 ≤ r.1 ∧ r.1 ≤ r.2 ∧ r.2 ≤ n) → goP n (rs.map fun r => itemT r.1 r.2) acc = (orR rs acc, 0)
  | [], acc, _ => rfl
  | r :: rs, acc, h => by
    obtain ⟨a, b, c⟩ := h r (by simp)
    have hi := (item_text a b c hn).1
    rw [List.map_cons, goP_ok (by rw [hi]), hi]
    exact go_runs hn rs _ (fun x hx => h x (List.mem_cons_of_mem _ hx))
theorem orR_bit : ∀ (rs : List (Nat × Nat)) (acc i : Nat), (∀ r ∈ rs, 1 ≤ r.1 ∧ r.1 ≤ r.2) → ((orR rs acc).testBit i = true ↔ acc.testBit i = true ∨ ∃ r ∈ rs, r.1 ≤ i + 1 ∧ i + 1 ≤ r.2)
  | [], acc, i, _ => by simp [orR]
  | r :: rs, acc, i, h => by
    obtain ⟨a, b⟩ := h r (by simp)
    have ih := orR_bit rs (acc ||| spanN r.1 r.2) i (fun x hx => h x (List.mem_cons_of_mem _ hx))
    show (orR rs (acc ||| spanN r.1 r.2)).testBit i = true ↔ _
    rw [ih, Nat.testBit_or, span_bit a (by omega)]
    simp only [Bool.or_eq_true, decide_eq_true_eq, List.mem_cons, exists_eq_or_imp]
    constructor
    · rintro ((h | ⟨h1, h2⟩) | h)
      · exact .inl h
      · exact .inr (.inl ⟨h1, by omega⟩)
      · exact .inr (.inr h)
    · rintro (h | ⟨h1, h2⟩ | h)
      · exact .inl (.inl h)
      · exact .inl (.inr ⟨h1, by omega⟩)
      · exact .inr h
theorem runs_ok {s n : Nat} (hs : s < 2 ^ n) (hn : n ≤ 20) : ∀ r ∈ runs (weeksP s 20), 1 ≤ r.1 ∧ r.1 ≤ r.2 ∧ r.2 ≤ n := fun r hr => by
  obtain ⟨h1, h2, h3⟩ := runs_mem _ _ (Nat.le_refl _) r hr
  have m1 := (mem_weeksP s 20 _).1 h1
  have m3 := (mem_weeksP s 20 _).1 h3
  refine ⟨m1.1, h2, ?_⟩
  rcases Nat.lt_or_ge n r.2 with h | h
  · have := bitB_top hs (show n ≤ r.2 - 1 by omega)
    rw [this] at m3
    simp at m3
  · exact h
theorem orR_runs {s n : Nat} (hs : s < 2 ^ n) (hn : n ≤ 20) : orR (runs (weeksP s 20)) 0 = s := by
  apply Nat.eq_of_testBit_eq
  intro i
  have h := orR_bit (runs (weeksP s 20)) 0 i (fun r hr => by have := runs_ok hs hn r hr; omega)
  rw [← mem_runs _ _ (Nat.le_refl _), mem_weeksP] at h
  rw [Bool.eq_iff_iff, h]
  simp only [Nat.zero_testBit, Bool.false_eq_true, false_or, Nat.add_sub_cancel, bitB_test]
  constructor
  · exact fun h => h.2.2
  · intro h
    refine ⟨by omega, ?_, h⟩
    rcases Nat.lt_or_ge i 20 with h' | h'
    · omega
    · have := bitB_top hs (show n ≤ i by omega)
      rw [bitB_test, h] at this
      simp at this
theorem word_split : ∀ k : Fin 5, has 44 (wordS k.val) = false ∧ kindOf (wordS k.val) = some k.val := by decide
theorem nameK_of {s n k : Nat} (h : nameK s n = some k) : k < 5 ∧ nmM k n = s := by
  unfold nameK at h
  have h1 := List.mem_of_find?_eq_some h
  have h2 := List.find?_some h
  exact ⟨List.mem_range.1 h1, of_decide_eq_true h2⟩
theorem go_word {n k : Nat} (hk : k < 5) (acc : Nat) : goP n (splitL (wordS k)) acc = (acc ||| nmM k n, 0) := by
  obtain ⟨h1, h2⟩ := word_split ⟨k, hk⟩
  dsimp only at h1 h2
  have hi : itemM (wordS k) n = (nmM k n, 0) := by unfold itemM; rw [h2]
  rw [split_one _ h1, goP_ok (by rw [hi]), hi]
  rfl
/-- The text of a set means the set. -/
theorem form_go {s n : Nat} (h1 : 1 ≤ s) (hs : s < 2 ^ n) (hn : n ≤ 20) : goP n (splitL (formN s n)) 0 = (s, 0) := by
  unfold formN
  cases hk : nameK s n with
  | some k =>
    obtain ⟨h5, he⟩ := nameK_of hk
    show goP n (splitL (wordS k)) 0 = _
    rw [go_word h5, he, Nat.zero_or]
  | none =>
    show goP n (splitL (textM s)) 0 = _
    have hr := runs_ok hs hn
    have hne : runs (weeksP s 20) ≠ [] := fun e => by
      have := orR_runs hs hn
      rw [e] at this
      simp [orR] at this
      omega
    unfold textM
    rw [split_join _ (by simpa using hne) (fun x hx => by
      obtain ⟨r, hr', rfl⟩ := List.mem_map.1 hx
      obtain ⟨a, b, c⟩ := hr r hr'
      exact (item_text a b c hn).2), go_runs hn _ 0 hr, orR_runs hs hn]
theorem parse_form {s n : Nat} (h1 : 1 ≤ s) (hs : s < 2 ^ n) (hn1 : 1 ≤ n) (hn : n ≤ 20) : parseM (formN s n) (n : Int) = (s, 0) := by
  unfold parseM
  rw [if_pos ⟨by omega, by omega⟩, Int.toNat_natCast]
  unfold parseN
  rw [form_go h1 hs hn, if_neg (by simp), if_neg (by show ¬ s = 0; omega)]
theorem go_acc (n : Nat) : ∀ xs acc, (goP n xs 0).2 = 0 → goP n xs acc = (acc ||| (goP n xs 0).1, 0)
  | [], acc, _ => by simp [goP]
  | x :: xs, acc, h => by
    by_cases hx : (itemM x n).2 = 0
    · rw [goP_ok hx] at h ⊢
      rw [goP_ok hx]
      have h0 : (goP n xs 0).2 = 0 := by
        rcases Int.decEq (goP n xs 0).2 0 with h' | h'
        · exfalso
          have := goP_two n xs (0 ||| (itemM x n).1)
          rw [this] at h
          exact h' h
        · exact h'
      rw [go_acc n xs _ h0, go_acc n xs (0 ||| (itemM x n).1) h0]
      simp [Nat.or_assoc]
    · rw [goP_err hx] at h
      exact absurd h hx
where goP_two (n : Nat) : ∀ xs acc, (goP n xs acc).2 = (goP n xs 0).2
  | [], _ => rfl
  | x :: xs, acc => by
    by_cases hx : (itemM x n).2 = 0
    · rw [goP_ok hx, goP_ok hx, goP_two n xs (acc ||| _), goP_two n xs (0 ||| _)]
    · rw [goP_err hx, goP_err hx]
theorem parse_two {s t n : Nat} (h1 : 1 ≤ s) (hs : s < 2 ^ n) (h2 : 1 ≤ t) (ht : t < 2 ^ n) (hn1 : 1 ≤ n) (hn : n ≤ 20) : parseM (formN s n ++ 44 :: formN t n) (n : Int) = (s ||| t, 0) := by
  have e1 := form_go h1 hs hn
  have e2 := form_go h2 ht hn
  have e : goP n (splitL (formN s n ++ 44 :: formN t n)) 0 = (s ||| t, 0) := by
    rw [split_app, goP_app _ _ _ _ (by rw [e1]), e1, go_acc _ _ _ (by rw [e2]), e2]
  have hne : s ||| t ≠ 0 := fun h => by
    have := Nat.left_le_or (n := s) (m := t)
    omega
  unfold parseM
  rw [if_pos ⟨by omega, by omega⟩, Int.toNat_natCast]
  unfold parseN
  rw [e, if_neg (by simp), if_neg hne]
theorem parse_word {n k : Nat} (hk : k < 5) (hn1 : 1 ≤ n) (hn : n ≤ 20) (h : nmM k n ≠ 0) : parseM (wordS k) (n : Int) = (nmM k n, 0) := by
  unfold parseM
  rw [if_pos ⟨by omega, by omega⟩, Int.toNat_natCast]
  unfold parseN
  rw [go_word hk, Nat.zero_or, if_neg (by simp), if_neg h]
/-- The bits of a list of weeks. -/
def bkW (l : List Nat) (acc : Nat) : Nat := l.foldl (fun acc w => acc ||| 2 ^ (w - 1)) acc
theorem bkW_snoc (l : List Nat) (w acc : Nat) : bkW (l ++ [w]) acc = bkW l acc ||| 2 ^ (w - 1) := by simp [bkW]
theorem bkW_weeks (s : Nat) : ∀ k, bkW (weeksP s k) 0 = s % 2 ^ k
  | 0 => by simp [weeksP, bkW, Nat.mod_one]
  | k + 1 => by
    have ih := bkW_weeks s k
    have hm : s % 2 ^ (k + 1) = s % 2 ^ k + 2 ^ k * (s / 2 ^ k % 2) := by rw [Nat.pow_succ, Nat.mod_mul]
    rw [hm]
    cases h : bitB s k with
    | true =>
      have h1 : s / 2 ^ k % 2 = 1 := of_decide_eq_true h
      rw [weeksP_yes h, bkW_snoc, ih, Nat.add_sub_cancel, or_top (Nat.mod_lt _ (Nat.two_pow_pos k)), h1, Nat.mul_one]
    | false =>
      have h1 := of_decide_eq_false h
      rw [weeksP_no h, ih, show s / 2 ^ k % 2 = 0 by omega]
      simp
theorem halves_table : ∀ n : Fin 21, 2 ≤ n.val → nmM 3 n.val ≠ 0 ∧ nmM 4 n.val ≠ 0 ∧ nmM 1 n.val ≠ 0 ∧ nmM 2 n.val ≠ 0 ∧ nmM 3 n.val &&& nmM 4 n.val = 0 ∧ nmM 3 n.val ||| nmM 4 n.val = 2 ^ n.val - 1 ∧ nmM 1 n.val &&& nmM 2 n.val = 0 ∧ nmM 1 n.val ||| nmM 2 n.val = 2 ^ n.val - 1 ∧
    (weeksP (nmM 3 n.val) 20).length = (weeksP (nmM 4 n.val) 20).length + n.val % 2 := by decide +kernel
end Go.Proofs.YteckefolakjafaaGreatDoor

