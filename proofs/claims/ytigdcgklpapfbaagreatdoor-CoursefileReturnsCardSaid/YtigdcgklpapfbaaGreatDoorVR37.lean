/-
  Reading starts: hasEqual at starts, readStarts of coursefile. Conditions: the variables hold what their text lays; the text is below 2^32 bytes.
  One field of a class: readField, and the closure that calls it. Conditions: the variables hold what their text lays; the field is below 2^32 bytes.
-/
import Derived.Test.YtigdcgklpapfbaaGreatDoorVR22
import Derived.Test.YtigdcgklpapfbaaGreatDoorVR35
import Derived.Test.YtigdcgklpapfbaaGreatDoorVR36
import Derived.StillTailTactics
set_option linter.unusedVariables false
namespace Go.Proofs.YtigdcgklpapfbaaGreatDoor.S10
open Go Go.Proofs Go.RowKit Go.Lib Go.Proofs.YtigdcgklpapfbaaGreatDoor

/-- That two starts are equal, as the model finds it. -/
theorem eqlStart : EqlAt Tryz.prog 74 (fun x : StartD => .agg (startVs x).toArray) (fun x y => decide (x = y)) := by
  refine ⟨fun x y w => ?_, GuardAt.agg _ (by kernel_rfl)⟩
  have u3 := Tryz.underlying3
  have a3 := Tryz.isAgg3
  have z3 := Tryz.sizeOf3
  have hS : Tryz.prog.underlying 74 = some (.struct (Tryz.prog.fieldsOf 74)) := by kernel_rfl
  have hp : Tryz.prog.stoodInHeld 74 = false := by kernel_rfl
  simp only [startVs]
  rw [run_eql_struct, show (10000 : Nat) = 9999 + 1 from rfl, run_equalIn_agg w 9999 74 _ _ hS hp]
  simp only [Program.fieldsOf, Tryz.underlying74]
  go_simp
  obtain ⟨x1, x2⟩ := x
  obtain ⟨y1, y2⟩ := y
  by_cases h1 : x1 = y1 <;> by_cases h2 : x2 = y2 <;> simp [h1, h2]
theorem containsS_any (b off i c : Nat) (l : List StartD) (x : StartD) (w : World) (hi : i ≤ l.length) (hbig : i ≤ 9223372036854775807) (hc : ∀ j (h : j < l.length), w.cell? ⟨b, off + j * 2, none⟩ = some (.int .i64 (l[j]).1) ∧ w.cell? ⟨b, off + j * 2 + 1, none⟩ = some (.int .i64 (l[j]).2)) :
    Calls Tryz.prog 164 #[.slice (some ⟨b, off, none⟩) i c, .agg #[.int .i64 x.1, .int .i64 x.2]] w fun e w' => e = .returned (.bool (decide (x ∈ l.take i))) ∧ Below w.heap.size w w' := by
  have h := AnyQ.slices_Contains Tryz.containsStart 2 Tryz.isAgg74 Tryz.sizeOf74 startVs (fun _ => rfl) (fun x y => decide (x = y)) eqlStart b off i c l x w hi hbig (fun j hj k v hv => by
    obtain ⟨h0, h1⟩ := hc j hj
    have e1 : l[j]! = l[j] := by simp [hj]
    rw [e1] at hv
    match k, hv with
    | 0, hv => exact h0.trans hv
    | 1, hv => exact h1.trans hv
    | k + 2, hv => simp [startVs] at hv)
  have e : (l.take i).any (fun y => decide (x = y)) = decide (x ∈ l.take i) := by
    rw [Bool.eq_iff_iff, List.any_eq_true, decide_eq_true_iff]
    constructor
    · rintro ⟨y, hy, h⟩
      have := of_decide_eq_true h
      subst this
      exact hy
    · intro h
      exact ⟨x, h, decide_eq_true rfl⟩
  rw [e] at h
  exact h
set_option maxHeartbeats 4000000 in
set_option maxRecDepth 100000 in
theorem hasEqualS_any (A : Option Addr) (l : List StartD) (c : Nat) (B : Nat) (w : World) (hB : B ≤ w.heap.size) (h : StartsIn w (fun b => b < B) A l) (hlc : l.length ≤ c) (hc : c ≤ 9223372036854775807) :
    Calls Tryz.prog 127 #[.slice A l.length c] w fun e w' => e = .returned (.bool (dupB l)) ∧ Below w.heap.size w w' := by
  obtain ⟨ANS, hA⟩ : ∃ ANS, dupB l = ANS := ⟨_, rfl⟩
  rw [hA]
  have HA := hid hA
  have HH := hid h
  clear h hA
  go_enter Tryz.func127, Tryz.ntmps127
  go_wp2
  go_loopw [3, 4, 7] (fun _ _ iv wr => ∃ i : Nat, iv = .int .i64 (i : Int) ∧ i ≤ l.length ∧ Hid ((l.take i).Nodup) ∧ Hid (Below w.heap.size w wr)) (fun _ _ iv _ => l.length - (RowKit.intOf iv).toNat)
  case atStart => exact ⟨0, rfl, Nat.zero_le _, hid (by simp), hid (Below.refl _ _)⟩
  case round =>
    obtain ⟨i, rfl, hi, hN, hBw⟩ := hrel
    by_cases hlt : i < l.length
    · have hltz : (i : Int) < (l.length : Int) := by omega
      have hst := nodup_take hlt hN.out
      have hHH : StartsIn wr (fun b => b < B) A l := HH.out.kept (fun b hb => hBw.out.block b (Nat.lt_of_lt_of_le hb hB))
      obtain ⟨b1, o1, rfl, hb1, hc0, hc1⟩ := hHH.start hlt
      have hb1w : b1 < wr.heap.size := Nat.lt_of_lt_of_le hb1 (Nat.le_trans hB hBw.out.size)
      have cC := fun (W : World) (hb : Below wr.heap.size wr W) => containsS_any b1 o1 i c l l[i] W (by omega) (by omega) (fun j hj => by
        obtain ⟨b2, o2, hA2, _, hc2, hc3⟩ := hHH.start hj
        injection hA2 with hA2
        injection hA2 with e1 e2 _
        subst e1 e2
        exact ⟨(hb.cell (p := ⟨b1, o1 + j * 2, none⟩) hb1w).trans hc2, (hb.cell (p := ⟨b1, o1 + j * 2 + 1, none⟩) hb1w).trans hc3⟩)
      obtain ⟨⟨y0, y1⟩, hy⟩ : ∃ y, l[i] = y := ⟨_, rfl⟩
      rw [hy] at hc0 hc1 hst cC
      dsimp only at hc0 hc1 cC
      have hic : i ≤ c := by omega
      have hS := BoxS.new wr (.int .i64 y0) (.int .i64 y1)
      have hb2 := (Below.refl wr.heap.size wr).alloc (Nat.le_refl _) (.cells #[.int .i64 y0, .int .i64 y1] 74)
      obtain ⟨M, hM⟩ : ∃ M, decide ((y0, y1) ∈ l.take i) = M := ⟨_, rfl⟩
      rw [hM] at cC
      obtain ⟨s0, s1⟩ := hS.cells
      have CC := hid cC
      have HST := hid hst
      have HM := hid hM
      have HB2 := hid hb2
      clear cC hst hy hM hHH hb1w hb1 hS hb2
      go_wp2
      generalize wr.alloc (.cells #[.int .i64 y0, .int .i64 y1] 74) = w1 at HB2 s0 s1 ⊢
      go_still_tail 4, (by kernel_rfl)
      change wpList _ _ _ _ _ w1.drew
      go_wp2_with fail
      refine (CC.out w1.drew HB2.out.drew).mono ?_
      rintro e w2 ⟨rfl, hb⟩
      have HBE := hid (hBw.out.trans ((HB2.out.drew.trans (hb.mono HB2.out.drew.size)).mono hBw.out.size))
      clear hb
      cases M with
      | true =>
        have HT : Hid (ANS = true) := hid (by
          rw [← HA.out]
          unfold dupB
          rw [decide_eq_false (fun k => HST.out.1 (nodup_pre _ k) (of_decide_eq_true HM.out))]
          rfl)
        go_wp2
        go_ret
        exact ⟨by rw [HT.out]; rfl, HBE.out⟩
      | false =>
        have HN2 := hid (HST.out.2 (of_decide_eq_false HM.out))
        go_wp2
        go_roundw
        case rel => exact ⟨i + 1, by go_num, by omega, HN2, HBE⟩
        case measure => simp [RowKit.intOf]; omega
    · have hltz : ¬ (i : Int) < (l.length : Int) := by omega
      have HF : Hid (ANS = false) := hid (by
        have h := hN.out
        rw [List.take_of_length_le (by omega)] at h
        rw [← HA.out]
        unfold dupB
        rw [decide_eq_true h]
        rfl)
      go_wp2
      go_ret
      exact ⟨by rw [HF.out]; rfl, hBw.out⟩

/-- The boxes of a length and a grid. -/
structure KL (w0 : World) (len d s b m : Int) (W : World) : Prop where
  l : Box1 W w0.heap.size 3 (.int .i64 len)
  g : Box4 W (w0.heap.size + 1) d s b m
  b : Below w0.heap.size w0 W
theorem KL.next {w0 W W' : World} {len d s b m : Int} (h : KL w0 len d s b m W) (k : Below W.heap.size W W') : KL w0 len d s b m W' := ⟨h.l.next k, h.g.next k h.g.lt, h.b.trans (k.mono h.b.size)⟩
theorem KL.first (w : World) (len d s b m : Int) : KL w len d s b m ((w.alloc (.cells #[.int .i64 len] 3)).alloc (.cells #[.int .i64 d, .int .i64 s, .int .i64 b, .int .i64 m] 24)) := by
  have hb1 := (Below.refl w.heap.size w).alloc (Nat.le_refl _) (.cells #[.int .i64 len] 3)
  have hL := Box1.new w 3 (.int .i64 len)
  have hs : (w.alloc (.cells #[.int .i64 len] 3)).heap.size = w.heap.size + 1 := by simp
  generalize w.alloc (.cells #[.int .i64 len] 3) = w1 at hb1 hL hs ⊢
  have hb2 := (Below.refl w1.heap.size w1).alloc (Nat.le_refl _) (.cells #[.int .i64 d, .int .i64 s, .int .i64 b, .int .i64 m] 24)
  have hG := Box4.new w1 d s b m 24
  rw [hs] at hG
  exact ⟨hL.next hb2, hG, hb1.trans (hb2.mono (by omega))⟩
/-- What reading starts leaves behind. -/
def StartsOut (r : List StartD × Int) (w : World) (e : Ending) (w' : World) : Prop := (∃ v, e = .returned (.tuple #[v, .int .i64 r.2]) ∧ StartRow w' w.heap.size v r.1) ∧ Below w.heap.size w w'
theorem StartRow.nil (w : World) (B : Nat) : StartRow w B (.slice none 0 0) [] := World.ownsRow_nil _ _ _ _
set_option maxHeartbeats 8000000 in
set_option maxRecDepth 100000 in
theorem readStarts_any (d s b m len : Int) (x : ByteArray) (hs : x.size < 4294967281) (w : World) (hE : Env7 w) :
    Calls Tryz.prog 89 #[.string x, .int .i64 len, .agg #[.int .i64 d, .int .i64 s, .int .i64 b, .int .i64 m]] w (StartsOut (startsM d s b m len (lst x)) w) := by
  unfold StartsOut startsM
  have hk := KL.first w len d s b m
  by_cases h0 : 0 < x.size
  · obtain ⟨x1, x2, x3, x4⟩ := str_no h0
    have hne : lst x ≠ [] := fun e => by rw [Lib.size_eq, show x.data.toList = lst x from rfl, e] at h0; simp at h0
    rw [if_neg hne]
    have cP := readPartsS_any d s b m len w.heap.size (w.heap.size + 1) x hs _ (fun y W hy hb => readOne_any w.heap.size (w.heap.size + 1) d s b m len y (by omega) W (hk.next hb).l.cell (hk.next hb).g (hk.next hb).l.lt (hE.below (hk.next hb).b (Nat.le_refl _)))
    have hL24 := partsM_most (startM d s b m len) 59 24 (lst x)
    obtain ⟨⟨L, E⟩, hR⟩ : ∃ R, partsM (startM d s b m len) 59 24 (lst x) = R := ⟨_, rfl⟩
    rw [hR] at cP hL24 ⊢
    dsimp only at cP hL24 ⊢
    have HK := hid hk
    have CP := hid cP
    have HL24 := hid hL24
    clear cP hE hR hk hL24 hne
    by_cases hE0 : E = 0
    · subst hE0
      rw [if_neg (by simp)]
      cases hd : dupB L with
      | true =>
        rw [if_pos rfl]
        go_enter Tryz.func89, Tryz.ntmps89
        go_wp2_with fail
        generalize (w.alloc (.cells #[.int .i64 len] 3)).alloc (.cells #[.int .i64 d, .int .i64 s, .int .i64 b, .int .i64 m] 24) = w1 at CP HK ⊢
        refine CP.out.mono ?_
        rintro e w2 ⟨⟨v, rfl, hrow⟩, hb⟩
        obtain ⟨A, c, rfl, hc1, hc2, hin⟩ := FlatIn.ofRow hrow (startVals_len L)
        have cH := hasEqualS_any A L c w2.heap.size w2 (Nat.le_refl _) (hin.mono (fun k hk => hk.2)) hc1 hc2
        rw [hd] at cH
        have CH := hid cH
        have HB := hid (HK.out.next hb).b
        clear hb hrow hin cH hd
        go_wp2_with fail
        refine CH.out.mono ?_
        rintro e w3 ⟨rfl, hb3⟩
        have HB3 := hid (HB.out.trans (hb3.mono HB.out.size))
        clear hb3
        go_wp2
        go_ret2
        exact ⟨⟨_, rfl, StartRow.nil _ _⟩, HB3.out⟩
      | false =>
        rw [if_neg (by simp)]
        go_enter Tryz.func89, Tryz.ntmps89
        go_wp2_with fail
        generalize (w.alloc (.cells #[.int .i64 len] 3)).alloc (.cells #[.int .i64 d, .int .i64 s, .int .i64 b, .int .i64 m] 24) = w1 at CP HK ⊢
        refine CP.out.mono ?_
        rintro e w2 ⟨⟨v, rfl, hrow⟩, hb⟩
        have hrow' : StartRow w2 w.heap.size v L := rowLow hrow HK.out.b.size
        obtain ⟨A, c, rfl, hc1, hc2, hin⟩ := FlatIn.ofRow hrow (startVals_len L)
        have cH := hasEqualS_any A L c w2.heap.size w2 (Nat.le_refl _) (hin.mono (fun k hk => hk.2)) hc1 hc2
        rw [hd] at cH
        have CH := hid cH
        have HB := hid (HK.out.next hb).b
        have HROW := hid hrow'
        clear hb hrow hin cH hd hrow'
        go_wp2_with fail
        refine CH.out.mono ?_
        rintro e w3 ⟨rfl, hb3⟩
        have HB3 := hid (HB.out.trans (hb3.mono HB.out.size))
        have hrow3 : StartRow w3 w.heap.size (.slice A L.length c) L := row_under HROW.out hb3
        have cS := sortStarts_any _ L w.heap.size w3 hrow3 HB3.out.size (by have := HL24.out; omega)
        have CS := hid cS
        clear hb3 hrow3 cS
        go_wp2_with fail
        refine CS.out.mono ?_
        rintro e w4 ⟨rfl, hrow4, hb4⟩
        have HB4 := hid (HB3.out.trans hb4)
        have HROW4 := hid hrow4
        clear hb4 hrow4
        go_wp2
        go_ret2
        exact ⟨⟨_, rfl, HROW4.out⟩, HB4.out⟩
    · rw [if_pos hE0]
      have e1 : (E != 0) = true := by simpa using hE0
      have e2 : (E == 0) = false := by simpa using hE0
      go_enter Tryz.func89, Tryz.ntmps89
      go_wp2_with fail
      generalize (w.alloc (.cells #[.int .i64 len] 3)).alloc (.cells #[.int .i64 d, .int .i64 s, .int .i64 b, .int .i64 m] 24) = w1 at CP HK ⊢
      refine CP.out.mono ?_
      rintro e w2 ⟨⟨v, rfl, hrow⟩, hb⟩
      obtain ⟨A, c, rfl⟩ := row_slice hrow
      have HB := hid (HK.out.next hb).b
      clear hb hrow
      go_wp2
      go_ret2
      exact ⟨⟨_, rfl, StartRow.nil _ _⟩, HB.out⟩
  · obtain ⟨x1, x2, x3, x4⟩ := str_yes h0
    have hnil := lst_nil h0
    rw [if_pos hnil]
    have HK := hid hk
    clear hk
    go_enter Tryz.func89, Tryz.ntmps89
    go_wp2
    go_ret2
    exact ⟨⟨_, rfl, StartRow.nil _ _⟩, HK.out.b⟩
end Go.Proofs.YtigdcgklpapfbaaGreatDoor.S10

set_option linter.unusedVariables false
namespace Go.Proofs.YtigdcgklpapfbaaGreatDoor.S10
open Go Go.Proofs Go.RowKit Go.Lib Go.Proofs.YtigdcgklpapfbaaGreatDoor

/-- What lies while a field is read: a grid, a class. -/
structure KX (W0 : World) (G R : Nat) (a : Array Value) (d s b m : Int) (W : World) : Prop where
  g : Box4 W G d s b m
  x : BoxC W R a
  b : Below W0.heap.size W0 W
theorem KX.next {W0 W W' : World} {G R : Nat} {a : Array Value} {d s b m : Int} (h : KX W0 G R a d s b m W) (k : Below W.heap.size W W') : KX W0 G R a d s b m W' := ⟨h.g.next k h.g.lt, h.x.next k, h.b.trans (k.mono h.b.size)⟩
theorem KX.len {W0 W : World} {G R : Nat} {r : ClassD} {q : ClassA} {d s b m : Int} (h : KX W0 G R (clsArr r q) d s b m W) : W.cell? ⟨R, 3, none⟩ = some (.int .i64 r.len) := by
  obtain ⟨_, _, _, h3, _⟩ := BoxC.cells h.x
  exact h3
theorem KX.stored {W0 W : World} {G R : Nat} {r : ClassD} {q : ClassA} {d s b m LN : Int} (h : KX W0 G R (clsArr r q) d s b m W) (hne : G ≠ R) (hl : r.len = LN) (v : Value) :
    (W.setCell ⟨R, 8, none⟩ v).cell? ⟨G, 0, none⟩ = some (.int .i64 d) ∧ (W.setCell ⟨R, 8, none⟩ v).cell? ⟨G, 1, none⟩ = some (.int .i64 s) ∧ (W.setCell ⟨R, 8, none⟩ v).cell? ⟨G, 2, none⟩ = some (.int .i64 b) ∧ (W.setCell ⟨R, 8, none⟩ v).cell? ⟨G, 3, none⟩ = some (.int .i64 m) ∧ (W.setCell ⟨R, 8, none⟩ v).cell? ⟨R, 3, none⟩ = some (.int .i64 LN) := by
  have kc : ∀ o : Nat, (W.setCell ⟨R, 8, none⟩ v).cell? ⟨G, o, none⟩ = W.cell? ⟨G, o, none⟩ := fun o => World.cell?_of_block (w := W) (Below.heap_setCell W ⟨R, 8, none⟩ v G hne)
  obtain ⟨_, _, _, h3, _⟩ := BoxC.cells (BoxC.put8 h.x v)
  subst hl
  exact ⟨(kc 0).trans h.g.c0, (kc 1).trans h.g.c1, (kc 2).trans h.g.c2, (kc 3).trans h.g.c3, h3⟩
section
variable (d s b m n : Int) (x : Str) (r : ClassD) (q : ClassA) (R : Nat) (W : World)
  (hX : BoxC W R (clsArr r q)) (hR : ClassIn W (fun k => R < k ∧ k < W.heap.size) r q)
include hX hR
set_option maxHeartbeats 8000000 in
set_option maxRecDepth 100000 in
theorem readField0 : Calls Tryz.prog 57 #[.pointer (some ⟨R, 0, none⟩), .int .i64 0, .string (ba x), .agg #[.int .i64 d, .int .i64 s, .int .i64 b, .int .i64 m], .int .i64 n] W (FieldOut d s b m n 0 x r R W) := by
  have hb0 : Below W.heap.size W (W.alloc (.cells #[.int .i64 d, .int .i64 s, .int .i64 b, .int .i64 m] 24)) := (Below.refl _ W).alloc (Nat.le_refl _) _
  have hs0 : (W.alloc (.cells #[.int .i64 d, .int .i64 s, .int .i64 b, .int .i64 m] 24)).heap.size = W.heap.size + 1 := by simp
  have hG := Box4.new W d s b m 24
  unfold FieldOut
  have cC := fun W => ccode_any (ba x) W
  rw [lst_ba] at cC
  obtain ⟨u, hu⟩ : ∃ u : Str, (if S3.validC x = true then x else []) = u := ⟨_, rfl⟩
  have hub : (if S3.validC x = true then ba x else ⟨#[]⟩) = ba u := by rw [← hu]; split <;> rfl
  obtain ⟨e0, he0⟩ : ∃ e0 : Int, (if S3.validC x = true then (0 : Int) else 10) = e0 := ⟨_, rfl⟩
  have hS : setF d s b m n 0 x r = ({ r with code := u }, e0) := by rw [← hu, ← he0]; simp only [setF]; split <;> rfl
  rw [hub, he0] at cC
  rw [hS]
  obtain ⟨z, hz⟩ : ∃ z, ba x = z := ⟨_, rfl⟩
  rw [hz] at cC ⊢
  clear hub hu he0 hS
  have CC := hid cC
  clear cC
  have HX := hid hX
  have HR := hid hR
  have HB := hid hb0
  have HS0 := hid hs0
  have hlt := hX.lt
  have HG := hid hG
  clear hX hR hG hb0 hs0
  go_enter Tryz.func57, Tryz.ntmps57
  go_wp2_with fail
  generalize W.alloc (.cells #[.int .i64 d, .int .i64 s, .int .i64 b, .int .i64 m] 24) = W1 at HB HG HS0 ⊢
  refine (CC.out W1).mono ?_
  rintro e w2 ⟨rfl, rfl⟩
  have hB2 := HB.out
  have HB2 := hid hB2
  have HX2 := hid (HX.out.below hB2 hlt)
  obtain ⟨y0, y1, y2, y3, y4, y5, y6, y7, y8⟩ := HX2.out.cells
  have hf := HX2.out.free 0
  clear hB2
  go_wp2
  go_ret
  have hg := put_grown HB2.out R 0 (.string (ba u))
  have k := ClassIn.past (j := 0) (v := .string (ba u)) HR.out HB2.out
  exact ⟨rfl, ⟨q, BoxC.put0 HX2.out _, { k with }⟩, hg⟩
set_option maxHeartbeats 8000000 in
set_option maxRecDepth 100000 in
theorem readField1 : Calls Tryz.prog 57 #[.pointer (some ⟨R, 0, none⟩), .int .i64 1, .string (ba x), .agg #[.int .i64 d, .int .i64 s, .int .i64 b, .int .i64 m], .int .i64 n] W (FieldOut d s b m n 1 x r R W) := by
  have hb0 : Below W.heap.size W (W.alloc (.cells #[.int .i64 d, .int .i64 s, .int .i64 b, .int .i64 m] 24)) := (Below.refl _ W).alloc (Nat.le_refl _) _
  have hs0 : (W.alloc (.cells #[.int .i64 d, .int .i64 s, .int .i64 b, .int .i64 m] 24)).heap.size = W.heap.size + 1 := by simp
  have hG := Box4.new W d s b m 24
  unfold FieldOut
  have cC := fun W => ccode_any (ba x) W
  rw [lst_ba] at cC
  obtain ⟨u, hu⟩ : ∃ u : Str, (if S3.validC x = true then x else []) = u := ⟨_, rfl⟩
  have hub : (if S3.validC x = true then ba x else ⟨#[]⟩) = ba u := by rw [← hu]; split <;> rfl
  obtain ⟨e0, he0⟩ : ∃ e0 : Int, (if S3.validC x = true then (0 : Int) else 10) = e0 := ⟨_, rfl⟩
  have hS : setF d s b m n 1 x r = ({ r with course := u }, e0) := by rw [← hu, ← he0]; simp only [setF]; split <;> rfl
  rw [hub, he0] at cC
  rw [hS]
  obtain ⟨z, hz⟩ : ∃ z, ba x = z := ⟨_, rfl⟩
  rw [hz] at cC ⊢
  clear hub hu he0 hS
  have CC := hid cC
  clear cC
  have HX := hid hX
  have HR := hid hR
  have HB := hid hb0
  have HS0 := hid hs0
  have hlt := hX.lt
  have HG := hid hG
  clear hX hR hG hb0 hs0
  go_enter Tryz.func57, Tryz.ntmps57
  go_wp2_with fail
  generalize W.alloc (.cells #[.int .i64 d, .int .i64 s, .int .i64 b, .int .i64 m] 24) = W1 at HB HG HS0 ⊢
  refine (CC.out W1).mono ?_
  rintro e w2 ⟨rfl, rfl⟩
  have hB2 := HB.out
  have HB2 := hid hB2
  have HX2 := hid (HX.out.below hB2 hlt)
  obtain ⟨y0, y1, y2, y3, y4, y5, y6, y7, y8⟩ := HX2.out.cells
  have hf := HX2.out.free 1
  clear hB2
  go_wp2
  go_ret
  have hg := put_grown HB2.out R 1 (.string (ba u))
  have k := ClassIn.past (j := 1) (v := .string (ba u)) HR.out HB2.out
  exact ⟨rfl, ⟨q, BoxC.put1 HX2.out _, { k with }⟩, hg⟩
set_option maxHeartbeats 8000000 in
set_option maxRecDepth 100000 in
theorem readField2 : Calls Tryz.prog 57 #[.pointer (some ⟨R, 0, none⟩), .int .i64 2, .string (ba x), .agg #[.int .i64 d, .int .i64 s, .int .i64 b, .int .i64 m], .int .i64 n] W (FieldOut d s b m n 2 x r R W) := by
  have hb0 : Below W.heap.size W (W.alloc (.cells #[.int .i64 d, .int .i64 s, .int .i64 b, .int .i64 m] 24)) := (Below.refl _ W).alloc (Nat.le_refl _) _
  have hs0 : (W.alloc (.cells #[.int .i64 d, .int .i64 s, .int .i64 b, .int .i64 m] 24)).heap.size = W.heap.size + 1 := by simp
  have hG := Box4.new W d s b m 24
  unfold FieldOut
  have cC := fun W => ccode_any (ba x) W
  rw [lst_ba] at cC
  obtain ⟨u, hu⟩ : ∃ u : Str, (if S3.validC x = true then x else []) = u := ⟨_, rfl⟩
  have hub : (if S3.validC x = true then ba x else ⟨#[]⟩) = ba u := by rw [← hu]; split <;> rfl
  obtain ⟨e0, he0⟩ : ∃ e0 : Int, (if S3.validC x = true then (0 : Int) else 10) = e0 := ⟨_, rfl⟩
  have hS : setF d s b m n 2 x r = ({ r with part := u }, e0) := by rw [← hu, ← he0]; simp only [setF]; split <;> rfl
  rw [hub, he0] at cC
  rw [hS]
  obtain ⟨z, hz⟩ : ∃ z, ba x = z := ⟨_, rfl⟩
  rw [hz] at cC ⊢
  clear hub hu he0 hS
  have CC := hid cC
  clear cC
  have HX := hid hX
  have HR := hid hR
  have HB := hid hb0
  have HS0 := hid hs0
  have hlt := hX.lt
  have HG := hid hG
  clear hX hR hG hb0 hs0
  go_enter Tryz.func57, Tryz.ntmps57
  go_wp2_with fail
  generalize W.alloc (.cells #[.int .i64 d, .int .i64 s, .int .i64 b, .int .i64 m] 24) = W1 at HB HG HS0 ⊢
  refine (CC.out W1).mono ?_
  rintro e w2 ⟨rfl, rfl⟩
  have hB2 := HB.out
  have HB2 := hid hB2
  have HX2 := hid (HX.out.below hB2 hlt)
  obtain ⟨y0, y1, y2, y3, y4, y5, y6, y7, y8⟩ := HX2.out.cells
  have hf := HX2.out.free 2
  clear hB2
  go_wp2
  go_ret
  have hg := put_grown HB2.out R 2 (.string (ba u))
  have k := ClassIn.past (j := 2) (v := .string (ba u)) HR.out HB2.out
  exact ⟨rfl, ⟨q, BoxC.put2 HX2.out _, { k with }⟩, hg⟩
set_option maxHeartbeats 8000000 in
set_option maxRecDepth 100000 in
theorem readField3 (hE : Env7 W) (hx : x.length < 4294967281) : Calls Tryz.prog 57 #[.pointer (some ⟨R, 0, none⟩), .int .i64 3, .string (ba x), .agg #[.int .i64 d, .int .i64 s, .int .i64 b, .int .i64 m], .int .i64 n] W (FieldOut d s b m n 3 x r R W) := by
  have hb0 : Below W.heap.size W (W.alloc (.cells #[.int .i64 d, .int .i64 s, .int .i64 b, .int .i64 m] 24)) := (Below.refl _ W).alloc (Nat.le_refl _) _
  have hs0 : (W.alloc (.cells #[.int .i64 d, .int .i64 s, .int .i64 b, .int .i64 m] 24)).heap.size = W.heap.size + 1 := by simp
  have hG := Box4.new W d s b m 24
  unfold FieldOut
  have cC := fun W h => (lst_ba x) ▸ readLength_any (ba x) (by rw [Lib.size_eq]; have : (ba x).data.toList.length = x.length := rfl; omega) d s b m W h
  obtain ⟨⟨u, e0⟩, hu⟩ : ∃ p, lenM s x = p := ⟨_, rfl⟩
  have hS : setF d s b m n 3 x r = ({ r with len := u }, e0) := by simp only [setF, hu]
  rw [hu] at cC
  rw [hS]
  obtain ⟨z, hz⟩ : ∃ z, ba x = z := ⟨_, rfl⟩
  rw [hz] at cC ⊢
  clear hS hu
  have CC := hid cC
  clear cC
  have HX := hid hX
  have HR := hid hR
  have HB := hid hb0
  have HS0 := hid hs0
  have hlt := hX.lt
  have HG := hid hG
  clear hX hR hG hb0 hs0
  obtain ⟨g0, g1, g2, g3, g4⟩ := HG.out
  go_enter Tryz.func57, Tryz.ntmps57
  go_wp2_with fail
  generalize W.alloc (.cells #[.int .i64 d, .int .i64 s, .int .i64 b, .int .i64 m] 24) = W1 at HB HG HS0 g0 g1 g2 g3 g4 ⊢
  refine (CC.out W1 (hE.e.below HB.out hE.e.size)).mono ?_
  rintro e w2 ⟨rfl, hb2⟩
  have hB2 := HB.out.trans (hb2.mono HB.out.size)
  clear hb2
  have HB2 := hid hB2
  have HX2 := hid (HX.out.below hB2 hlt)
  obtain ⟨y0, y1, y2, y3, y4, y5, y6, y7, y8⟩ := HX2.out.cells
  have hf := HX2.out.free 3
  clear hB2
  go_wp2
  go_ret
  have hg := put_grown HB2.out R 3 (.int .i64 u)
  have k := ClassIn.past (j := 3) (v := .int .i64 u) HR.out HB2.out
  exact ⟨rfl, ⟨q, BoxC.put3 HX2.out _, { k with }⟩, hg⟩
set_option maxHeartbeats 8000000 in
set_option maxRecDepth 100000 in
theorem readField4 (hE : Env7 W) (hx : x.length < 4294967281) : Calls Tryz.prog 57 #[.pointer (some ⟨R, 0, none⟩), .int .i64 4, .string (ba x), .agg #[.int .i64 d, .int .i64 s, .int .i64 b, .int .i64 m], .int .i64 n] W (FieldOut d s b m n 4 x r R W) := by
  have hb0 : Below W.heap.size W (W.alloc (.cells #[.int .i64 d, .int .i64 s, .int .i64 b, .int .i64 m] 24)) := (Below.refl _ W).alloc (Nat.le_refl _) _
  have hs0 : (W.alloc (.cells #[.int .i64 d, .int .i64 s, .int .i64 b, .int .i64 m] 24)).heap.size = W.heap.size + 1 := by simp
  have hG := Box4.new W d s b m 24
  unfold FieldOut
  have cC := fun W h => (lst_ba x) ▸ readPatterns_any n (ba x) (by rw [Lib.size_eq]; exact hx) W h
  obtain ⟨⟨u, e0⟩, hu⟩ : ∃ p, patsM n x = p := ⟨_, rfl⟩
  have hS : setF d s b m n 4 x r = ({ r with pats := u }, e0) := by simp only [setF, hu]
  rw [hu] at cC
  rw [hS]
  obtain ⟨z, hz⟩ : ∃ z, ba x = z := ⟨_, rfl⟩
  rw [hz] at cC ⊢
  clear hS hu
  have CC := hid cC
  clear cC
  have HX := hid hX
  have HR := hid hR
  have HB := hid hb0
  have HS0 := hid hs0
  have hlt := hX.lt
  have HG := hid hG
  clear hX hR hG hb0 hs0
  go_enter Tryz.func57, Tryz.ntmps57
  go_wp2_with fail
  generalize W.alloc (.cells #[.int .i64 d, .int .i64 s, .int .i64 b, .int .i64 m] 24) = W1 at HB HG HS0 ⊢
  refine (CC.out W1 (hE.e.below HB.out hE.e.size)).mono ?_
  rintro e w2 ⟨⟨v, rfl, hrow⟩, hb2⟩
  have hB2 := HB.out.trans (hb2.mono HB.out.size)
  obtain ⟨A, c, rfl, hc1, hc2, hin⟩ := FlatIn.ofRow hrow (by simp [intVals_len])
  have HIN := hid hin
  clear hb2 hrow hin
  have HB2 := hid hB2
  have HX2 := hid (HX.out.below hB2 hlt)
  obtain ⟨y0, y1, y2, y3, y4, y5, y6, y7, y8⟩ := HX2.out.cells
  have hf := HX2.out.free 4
  clear hB2
  go_wp2
  go_ret
  have hg := put_grown HB2.out R 4 (.slice A u.length c)
  have k := ClassIn.past (j := 4) (v := .slice A u.length c) HR.out HB2.out
  have hsz := HB.out.size
  refine ⟨rfl, ⟨{ q with aP := A, cP := c }, BoxC.put4 HX2.out _, { k with p := ?_, p1 := hc1, p2 := hc2 }⟩, hg⟩
  refine (HIN.out.kept (w' := w2.setCell ⟨R, 4, none⟩ (.slice A u.length c)) (fun b hb => ?_)).mono (fun b hb => ⟨by omega, ?_⟩)
  · exact Below.heap_setCell w2 ⟨R, 4, none⟩ _ b (fun e => by have : b = R := e; omega)
  · simpa [World.setCell] using hb.2
set_option maxHeartbeats 8000000 in
set_option maxRecDepth 100000 in
theorem readField5 (hE : Env7 W) : Calls Tryz.prog 57 #[.pointer (some ⟨R, 0, none⟩), .int .i64 5, .string (ba x), .agg #[.int .i64 d, .int .i64 s, .int .i64 b, .int .i64 m], .int .i64 n] W (FieldOut d s b m n 5 x r R W) := by
  have hb0 : Below W.heap.size W (W.alloc (.cells #[.int .i64 d, .int .i64 s, .int .i64 b, .int .i64 m] 24)) := (Below.refl _ W).alloc (Nat.le_refl _) _
  have hs0 : (W.alloc (.cells #[.int .i64 d, .int .i64 s, .int .i64 b, .int .i64 m] 24)).heap.size = W.heap.size + 1 := by simp
  have hG := Box4.new W d s b m 24
  unfold FieldOut
  have cC := fun W h => (lst_ba x) ▸ readSeats_any (ba x) W h
  obtain ⟨⟨u, e0⟩, hu⟩ : ∃ p, seatsF x = p := ⟨_, rfl⟩
  have hS : setF d s b m n 5 x r = ({ r with seats := u }, e0) := by simp only [setF, hu]
  rw [hu] at cC
  rw [hS]
  obtain ⟨z, hz⟩ : ∃ z, ba x = z := ⟨_, rfl⟩
  rw [hz] at cC ⊢
  clear hS hu
  have CC := hid cC
  clear cC
  have HX := hid hX
  have HR := hid hR
  have HB := hid hb0
  have HS0 := hid hs0
  have hlt := hX.lt
  have HG := hid hG
  clear hX hR hG hb0 hs0
  go_enter Tryz.func57, Tryz.ntmps57
  go_wp2_with fail
  generalize W.alloc (.cells #[.int .i64 d, .int .i64 s, .int .i64 b, .int .i64 m] 24) = W1 at HB HG HS0 ⊢
  refine (CC.out W1 (hE.e.below HB.out hE.e.size)).mono ?_
  rintro e w2 ⟨rfl, hb2⟩
  have hB2 := HB.out.trans (hb2.mono HB.out.size)
  clear hb2
  have HB2 := hid hB2
  have HX2 := hid (HX.out.below hB2 hlt)
  obtain ⟨y0, y1, y2, y3, y4, y5, y6, y7, y8⟩ := HX2.out.cells
  have hf := HX2.out.free 5
  clear hB2
  go_wp2
  go_ret
  have hg := put_grown HB2.out R 5 (.int .i64 u)
  have k := ClassIn.past (j := 5) (v := .int .i64 u) HR.out HB2.out
  exact ⟨rfl, ⟨q, BoxC.put5 HX2.out _, { k with }⟩, hg⟩
set_option maxHeartbeats 8000000 in
set_option maxRecDepth 100000 in
theorem readField6 (hE : Env7 W) (hx : x.length < 4294967281) : Calls Tryz.prog 57 #[.pointer (some ⟨R, 0, none⟩), .int .i64 6, .string (ba x), .agg #[.int .i64 d, .int .i64 s, .int .i64 b, .int .i64 m], .int .i64 n] W (FieldOut d s b m n 6 x r R W) := by
  have hb0 : Below W.heap.size W (W.alloc (.cells #[.int .i64 d, .int .i64 s, .int .i64 b, .int .i64 m] 24)) := (Below.refl _ W).alloc (Nat.le_refl _) _
  have hs0 : (W.alloc (.cells #[.int .i64 d, .int .i64 s, .int .i64 b, .int .i64 m] 24)).heap.size = W.heap.size + 1 := by simp
  have hG := Box4.new W d s b m 24
  unfold FieldOut
  have cC := fun W h => (lst_ba x) ▸ creadCodes_any (ba x) (by rw [Lib.size_eq]; exact hx) W h
  obtain ⟨⟨u, e0⟩, hu⟩ : ∃ p, featsM x = p := ⟨_, rfl⟩
  have hS : setF d s b m n 6 x r = ({ r with feats := u }, e0) := by simp only [setF, hu]
  rw [hu] at cC
  rw [hS]
  obtain ⟨z, hz⟩ : ∃ z, ba x = z := ⟨_, rfl⟩
  rw [hz] at cC ⊢
  clear hS hu
  have CC := hid cC
  clear cC
  have HX := hid hX
  have HR := hid hR
  have HB := hid hb0
  have HS0 := hid hs0
  have hlt := hX.lt
  have HG := hid hG
  clear hX hR hG hb0 hs0
  go_enter Tryz.func57, Tryz.ntmps57
  go_wp2_with fail
  generalize W.alloc (.cells #[.int .i64 d, .int .i64 s, .int .i64 b, .int .i64 m] 24) = W1 at HB HG HS0 ⊢
  refine (CC.out W1 (hE.s.below HB.out)).mono ?_
  rintro e w2 ⟨⟨v, rfl, hrow⟩, hb2⟩
  have hB2 := HB.out.trans (hb2.mono HB.out.size)
  have hrow' : StrRow w2 W1.heap.size v u := hrow
  obtain ⟨A, c, rfl, hc1, hc2, hin⟩ := hrow'.strsIn
  have HIN := hid hin
  clear hb2 hrow hin hrow'
  have HB2 := hid hB2
  have HX2 := hid (HX.out.below hB2 hlt)
  obtain ⟨y0, y1, y2, y3, y4, y5, y6, y7, y8⟩ := HX2.out.cells
  have hf := HX2.out.free 6
  clear hB2
  go_wp2
  go_ret
  have hg := put_grown HB2.out R 6 (.slice A u.length c)
  have k := ClassIn.past (j := 6) (v := .slice A u.length c) HR.out HB2.out
  have hsz := HB.out.size
  refine ⟨rfl, ⟨{ q with aF := A, cF := c }, BoxC.put6 HX2.out _, { k with f := ?_, f1 := hc1, f2 := hc2 }⟩, hg⟩
  refine (HIN.out.kept (w' := w2.setCell ⟨R, 6, none⟩ (.slice A u.length c)) (fun b hb => ?_)).mono (fun b hb => ⟨by omega, ?_⟩)
  · exact Below.heap_setCell w2 ⟨R, 6, none⟩ _ b (fun e => by have : b = R := e; omega)
  · simpa [World.setCell] using hb.2
set_option maxHeartbeats 8000000 in
set_option maxRecDepth 100000 in
theorem readField7 (hE : Env7 W) (hx : x.length < 4294967281) : Calls Tryz.prog 57 #[.pointer (some ⟨R, 0, none⟩), .int .i64 7, .string (ba x), .agg #[.int .i64 d, .int .i64 s, .int .i64 b, .int .i64 m], .int .i64 n] W (FieldOut d s b m n 7 x r R W) := by
  have hb0 : Below W.heap.size W (W.alloc (.cells #[.int .i64 d, .int .i64 s, .int .i64 b, .int .i64 m] 24)) := (Below.refl _ W).alloc (Nat.le_refl _) _
  have hs0 : (W.alloc (.cells #[.int .i64 d, .int .i64 s, .int .i64 b, .int .i64 m] 24)).heap.size = W.heap.size + 1 := by simp
  have hG := Box4.new W d s b m 24
  unfold FieldOut
  have cC := fun W h => (lst_ba x) ▸ creadCodes_any (ba x) (by rw [Lib.size_eq]; exact hx) W h
  obtain ⟨⟨u, e0⟩, hu⟩ : ∃ p, featsM x = p := ⟨_, rfl⟩
  have hS : setF d s b m n 7 x r = ({ r with staff := u }, e0) := by simp only [setF, hu]
  rw [hu] at cC
  rw [hS]
  obtain ⟨z, hz⟩ : ∃ z, ba x = z := ⟨_, rfl⟩
  rw [hz] at cC ⊢
  clear hS hu
  have CC := hid cC
  clear cC
  have HX := hid hX
  have HR := hid hR
  have HB := hid hb0
  have HS0 := hid hs0
  have hlt := hX.lt
  have HG := hid hG
  clear hX hR hG hb0 hs0
  go_enter Tryz.func57, Tryz.ntmps57
  go_wp2_with fail
  generalize W.alloc (.cells #[.int .i64 d, .int .i64 s, .int .i64 b, .int .i64 m] 24) = W1 at HB HG HS0 ⊢
  refine (CC.out W1 (hE.s.below HB.out)).mono ?_
  rintro e w2 ⟨⟨v, rfl, hrow⟩, hb2⟩
  have hB2 := HB.out.trans (hb2.mono HB.out.size)
  have hrow' : StrRow w2 W1.heap.size v u := hrow
  obtain ⟨A, c, rfl, hc1, hc2, hin⟩ := hrow'.strsIn
  have HIN := hid hin
  clear hb2 hrow hin hrow'
  have HB2 := hid hB2
  have HX2 := hid (HX.out.below hB2 hlt)
  obtain ⟨y0, y1, y2, y3, y4, y5, y6, y7, y8⟩ := HX2.out.cells
  have hf := HX2.out.free 7
  clear hB2
  go_wp2
  go_ret
  have hg := put_grown HB2.out R 7 (.slice A u.length c)
  have k := ClassIn.past (j := 7) (v := .slice A u.length c) HR.out HB2.out
  have hsz := HB.out.size
  refine ⟨rfl, ⟨{ q with aS := A, cS := c }, BoxC.put7 HX2.out _, { k with s := ?_, s1 := hc1, s2 := hc2 }⟩, hg⟩
  refine (HIN.out.kept (w' := w2.setCell ⟨R, 7, none⟩ (.slice A u.length c)) (fun b hb => ?_)).mono (fun b hb => ⟨by omega, ?_⟩)
  · exact Below.heap_setCell w2 ⟨R, 7, none⟩ _ b (fun e => by have : b = R := e; omega)
  · simpa [World.setCell] using hb.2
set_option maxHeartbeats 8000000 in
set_option maxRecDepth 100000 in
theorem readField8 (hE : Env7 W) (hx : x.length < 4294967281) : Calls Tryz.prog 57 #[.pointer (some ⟨R, 0, none⟩), .int .i64 8, .string (ba x), .agg #[.int .i64 d, .int .i64 s, .int .i64 b, .int .i64 m], .int .i64 n] W (FieldOut d s b m n 8 x r R W) := by
  have hb0 : Below W.heap.size W (W.alloc (.cells #[.int .i64 d, .int .i64 s, .int .i64 b, .int .i64 m] 24)) := (Below.refl _ W).alloc (Nat.le_refl _) _
  have hs0 : (W.alloc (.cells #[.int .i64 d, .int .i64 s, .int .i64 b, .int .i64 m] 24)).heap.size = W.heap.size + 1 := by simp
  have hG := Box4.new W d s b m 24
  unfold FieldOut
  have cC := fun W h => (lst_ba x) ▸ readStarts_any d s b m r.len (ba x) (by rw [Lib.size_eq]; exact hx) W h
  obtain ⟨⟨u, e0⟩, hu⟩ : ∃ p, startsM d s b m r.len x = p := ⟨_, rfl⟩
  have hS : setF d s b m n 8 x r = ({ r with starts := u }, e0) := by simp only [setF, hu]
  rw [hu] at cC
  rw [hS]
  obtain ⟨z, hz⟩ : ∃ z, ba x = z := ⟨_, rfl⟩
  rw [hz] at cC ⊢
  clear hS hu
  have CC := hid cC
  clear cC
  have HX := hid hX
  have HR := hid hR
  have HB := hid hb0
  have HS0 := hid hs0
  have hlt := hX.lt
  have HG := hid hG
  clear hX hR hG hb0 hs0
  obtain ⟨g0, g1, g2, g3, g4⟩ := HG.out
  have hk : KX W W.heap.size R (clsArr r q) d s b m (W.alloc (.cells #[.int .i64 d, .int .i64 s, .int .i64 b, .int .i64 m] 24)) := ⟨HG.out, HX.out.below HB.out hlt, HB.out⟩
  have hk' := hk
  have w3 := hk.len
  have HE := hid (fun (w' : World) (hb : Below W.heap.size W w') => hE.below hb (Nat.le_refl _))
  clear hE hk
  go_enter Tryz.func57, Tryz.ntmps57
  go_wp2
  generalize W.alloc (.cells #[.int .i64 d, .int .i64 s, .int .i64 b, .int .i64 m] 24) = W1 at HB HG HS0 g0 g1 g2 g3 g4 w3 hk' ⊢
  generalize hgb : W.heap.size = GB at hk' g0 g1 g2 g3 g4 ⊢
  have HGB := hid hgb
  clear hgb
  obtain ⟨LN, hLN⟩ : ∃ LN, r.len = LN := ⟨_, rfl⟩
  have HLN := hid hLN
  rw [hLN] at w3 CC
  clear hLN
  go_region_held3 (fun w' => w'.cell? ⟨GB, 0, none⟩ = some (.int .i64 d) ∧ w'.cell? ⟨GB, 1, none⟩ = some (.int .i64 s) ∧ w'.cell? ⟨GB, 2, none⟩ = some (.int .i64 b) ∧ w'.cell? ⟨GB, 3, none⟩ = some (.int .i64 m) ∧ w'.cell? ⟨R, 3, none⟩ = some (.int .i64 LN))
    (first | with_reducible exact ⟨hk'.g.c0, hk'.g.c1, hk'.g.c2, hk'.g.c3, HLN.out ▸ hk'.len⟩ | with_reducible exact ⟨(hk'.next (Below.refl _ _).drew).g.c0, (hk'.next (Below.refl _ _).drew).g.c1, (hk'.next (Below.refl _ _).drew).g.c2, (hk'.next (Below.refl _ _).drew).g.c3, HLN.out ▸ (hk'.next (Below.refl _ _).drew).len⟩ | exact hk'.stored (by have := HGB.out; omega) HLN.out _)
    (first
      | (go_at_call 89; (refine (CC.out _ (HE.out _ (hk'.next (Below.refl _ _).drew).b)).mono ?_); rintro e w2 ⟨⟨v, rfl, hrow⟩, hb2⟩; obtain ⟨A, c, rfl, hc1, hc2, hin⟩ := FlatIn.ofRow hrow (startVals_len u); have HIN := hid hin; have hk' := (hk'.next (Below.refl _ _).drew).next hb2; clear hrow hin; obtain ⟨y0, y1, y2, y3, y4, y5, y6, y7, y8⟩ := BoxC.cells hk'.x; have hf := hk'.x.free 8))
  all_goals
    go_wp2
    go_ret
    have HB2 := hk'.b
    have hg := put_grown HB2 R 8 (.slice A u.length c)
    have k := ClassIn.past (j := 8) (v := .slice A u.length c) HR.out HB2
    have hsz := HB.out.size
    have hdr : W1.drew.heap.size = W1.heap.size := rfl
    refine ⟨rfl, ⟨{ q with aT := A, cT := c }, BoxC.put8 hk'.x _, { k with t := ?_, t1 := hc1, t2 := hc2 }⟩, hg⟩
    refine (HIN.out.kept (w' := w2.setCell ⟨R, 8, none⟩ (.slice A u.length c)) (fun b hb => ?_)).mono (fun b hb => ⟨by omega, ?_⟩)
    · exact Below.heap_setCell w2 ⟨R, 8, none⟩ _ b (fun e => by have : b = R := e; omega)
    · simpa [World.setCell] using hb.2
theorem readField_any (hE : Env7 W) (hx : x.length < 4294967281) (i : Nat) (hi : i < 9) : Calls Tryz.prog 57 #[.pointer (some ⟨R, 0, none⟩), .int .i64 (i : Int), .string (ba x), .agg #[.int .i64 d, .int .i64 s, .int .i64 b, .int .i64 m], .int .i64 n] W (FieldOut d s b m n i x r R W) := by
  match i, hi with
  | 0, _ => exact readField0 d s b m n x r q R W hX hR
  | 1, _ => exact readField1 d s b m n x r q R W hX hR
  | 2, _ => exact readField2 d s b m n x r q R W hX hR
  | 3, _ => exact readField3 d s b m n x r q R W hX hR hE hx
  | 4, _ => exact readField4 d s b m n x r q R W hX hR hE hx
  | 5, _ => exact readField5 d s b m n x r q R W hX hR hE
  | 6, _ => exact readField6 d s b m n x r q R W hX hR hE hx
  | 7, _ => exact readField7 d s b m n x r q R W hX hR hE hx
  | 8, _ => exact readField8 d s b m n x r q R W hX hR hE hx
set_option maxHeartbeats 8000000 in
set_option maxRecDepth 100000 in
theorem read1_any (hE : Env7 W) (hx : x.length < 4294967281) (i : Nat) (hi : i < 9) (G N : Nat) (hG : Box4 W G d s b m) (hN : W.cell? ⟨N, 0, none⟩ = some (.int .i64 n)) :
    Calls Tryz.prog 56 (#[.pointer (some ⟨R, 0, none⟩), .int .i64 (i : Int), .string (ba x)] ++ #[.pointer (some ⟨G, 0, none⟩), .pointer (some ⟨N, 0, none⟩)]) W (FieldOut d s b m n i x r R W) := by
  have cF := hid (readField_any d s b m n x r q R W hX hR hE hx i hi)
  obtain ⟨g0, g1, g2, g3, g4⟩ := hG
  clear hX hR hE hx
  simp only [List.append_toArray, List.cons_append, List.nil_append]
  obtain ⟨z, hz⟩ : ∃ z, ba x = z := ⟨_, rfl⟩
  rw [hz] at cF ⊢
  obtain ⟨iz, hiz⟩ : ∃ iz : Int, (i : Int) = iz := ⟨_, rfl⟩
  rw [hiz] at cF ⊢
  go_enter Tryz.func56, Tryz.ntmps56
  go_wp2_with fail
  refine cF.out.mono ?_
  rintro e w2 h
  unfold FieldOut at h ⊢
  obtain ⟨rfl, h⟩ := h
  have H := hid h
  clear h
  go_wp2
  go_ret
  exact ⟨rfl, H.out⟩
end
end Go.Proofs.YtigdcgklpapfbaaGreatDoor.S10
