/-
  The laws' sanity check of layer 5 holds; the walk of WeeksetExact. Conditions: the variables hold what their text lays; the string fits into memory.
-/
import Derived.Test.YtmmphjpakoimcaaDoorAB
import Derived.Test.YtmmphjpakoimcaaDoorAE
set_option linter.unusedVariables false
namespace Go.Proofs.YtmmphjpakoimcaaDoor
open Go Go.Proofs Go.RowKit Go.Lib

theorem awake_parse : parseM [49, 45, 51, 44, 55] 10 = (71, 0) := by decide +kernel
theorem awake_weeks : weeksP 71 20 = [1, 2, 3, 7] := by decide +kernel
theorem awake_name : nameK 71 10 = none := by decide +kernel
theorem awake_form : formM 71 10 = ([49, 45, 51, 44, 55], 0) := by
  have e : textM 71 = [49, 45, 51, 44, 55] := by
    unfold textM
    rw [awake_weeks]
    simp [runs_cons, runs_nil, cnt, itemT, dec2, joinC]
  unfold formM
  rw [if_pos (by decide +kernel)]
  show (formN 71 10, 0) = _
  unfold formN
  rw [awake_name]
  show (textM 71, 0) = _
  rw [e]

set_option maxHeartbeats 4000000 in
set_option maxRecDepth 100000 in
theorem awake_any (w : World) (hE : Env w) : Calls Tryd.prog 12 #[] w fun e w' => e = .returned (.bool true) ∧ Below w.heap.size w w' := by
  have cP := parse_any ⟨#[49, 45, 51, 44, 55]⟩ (by decide) 10 w hE
  rw [show lst ⟨#[49, 45, 51, 44, 55]⟩ = [49, 45, 51, 44, 55] from rfl, awake_parse] at cP
  have cF := fun w h => format_any 71 10 w h
  rw [awake_form] at cF
  have cP2 : Calls Tryd.prog 8 #[.string ⟨#[49, 45, 51, 44, 55]⟩, .int .i64 10] w fun e w' => e = .returned (.tuple #[.int .i64 71, .int .i64 0]) ∧ Below w.heap.size w w' := cP
  have cF2 : ∀ w, Names w → Calls Tryd.prog 10 #[.int .i64 71, .int .i64 10] w fun e w' => e = .returned (.tuple #[.string ⟨#[49, 45, 51, 44, 55]⟩, .int .i64 0]) ∧ Below w.heap.size w w' := cF
  have hs := hE.size
  have CP := hid cP2
  have CF := hid cF2
  have HE := hid hE
  clear cP cF cP2 cF2 hE
  go_enter Tryd.func12, Tryd.ntmps12
  go_wp2_with fail
  refine CP.out.mono ?_
  rintro e w1 ⟨rfl, hb1⟩
  have HB1 := hid hb1
  clear hb1
  go_wp2_with fail
  refine (CF.out _ (HE.out.below HB1.out hs).names).mono ?_
  rintro e w2 ⟨rfl, hb2⟩
  have HB2 := hid (HB1.out.trans (hb2.mono HB1.out.size))
  clear hb2
  go_wp2
  go_ret
  exact ⟨rfl, HB2.out⟩

theorem pair_eta {α : Type} (r : α × Int) : ∃ a e, r = (a, e) := ⟨r.1, r.2, rfl⟩

set_option maxHeartbeats 8000000 in
set_option maxRecDepth 100000 in
theorem exact_any (S N : Int) (s : ByteArray) (hz : s.size ≤ 4611686018427387904) (w : World) (hE : Env w) (hWd : Words w) :
    Calls Tryd.prog 3 #[.int .i64 S, .int .i64 N, .string s] w fun e w' => e = .returned (.bool true) ∧ Below w.heap.size w w' := by
  have cP := fun w h => parse_any s hz N w h
  have cQ := fun w h h6 => rparse_any s hz N w h h6
  have cF := fun w h => format_any S N w h
  have cG := fun w h => rformat_any S N w h
  obtain ⟨pv, pe, hp⟩ := pair_eta (parseM (lst s) N)
  obtain ⟨fv, fe, hf⟩ := pair_eta (formM S N)
  rw [hp] at cP cQ
  rw [hf] at cF cG
  have cV := fun w => valid_any S N w
  have cW := fun w => rvalid_any S N w
  obtain ⟨b, hb⟩ : ∃ b, validM S N = b := ⟨_, rfl⟩
  rw [hb] at cV cW
  have cK := fun w => weeks_any S w
  have cL := fun w => rweeks_any S w
  obtain ⟨l, hl⟩ : ∃ l, weeksM S = l := ⟨_, rfl⟩
  have hll : l.length ≤ 20 := by
    rw [← hl]
    unfold weeksM
    split
    · rw [castL_len]; exact weeksP_len _ _
    · simp
  rw [hl] at cK cL
  have hs := hE.size
  have CP := hid cP
  have CQ := hid cQ
  have CF := hid cF
  have CG := hid cG
  have CV := hid cV
  have CW := hid cW
  have CK := hid cK
  have CL := hid cL
  have HE := hid hE
  have HWd := hid hWd
  have e1 : (pe == pe) = true := by simp
  have e2 : (((pv : Nat) : Int) == ((pv : Nat) : Int)) = true := by simp
  have e3 : (fe == fe) = true := by simp
  have e4 : ((ba fv).toList == (ba fv).toList) = true := by simp
  have e5 : (b == b) = true := by simp
  clear cP cQ cF cG cV cW cK cL hE hWd hp hf hb hl
  unfold ItemOut at CP CQ
  unfold FormOut at CF CG
  dsimp only at CP CQ CF CG
  obtain ⟨FV, hFV⟩ : ∃ FV, ba fv = FV := ⟨_, rfl⟩
  rw [hFV] at CF CG e4
  clear hFV
  go_enter Tryd.func3, Tryd.ntmps3
  go_wp2_with fail
  refine (CP.out _ HE.out).mono ?_
  rintro e w1 ⟨rfl, hb1⟩
  have HB1 := hid hb1
  have HE1 := hid (HE.out.below hb1 hs)
  clear hb1
  go_wp2_with fail
  refine (CQ.out _ (HWd.out.below HB1.out hs) HE1.out.size).mono ?_
  rintro e w2 ⟨rfl, hb2⟩
  have HB2 := hid (HB1.out.trans (hb2.mono HB1.out.size))
  have HE2 := hid (HE.out.below HB2.out hs)
  clear hb2
  go_wp2_with fail
  refine (CF.out _ HE2.out.names).mono ?_
  rintro e w3 ⟨rfl, hb3⟩
  have HB3 := hid (HB2.out.trans (hb3.mono HB2.out.size))
  have HE3 := hid (HE.out.below HB3.out hs)
  clear hb3
  go_wp2_with fail
  refine (CG.out _ (HWd.out.below HB3.out hs)).mono ?_
  rintro e w4 ⟨rfl, hb4⟩
  have HB4 := hid (HB3.out.trans (hb4.mono HB3.out.size))
  have HE4 := hid (HE.out.below HB4.out hs)
  clear hb4
  go_wp2_with fail
  refine (awake_any _ HE4.out).mono ?_
  rintro e w5 ⟨rfl, hb5⟩
  have HB5 := hid (HB4.out.trans (hb5.mono HB4.out.size))
  clear hb5
  go_wp2_with fail
  refine (CV.out _).mono ?_
  rintro e w6 ⟨rfl, q6, hw6⟩
  have HB6 : Hid (Below w.heap.size w w6) := hid (by rw [hw6]; exact below_drewN HB5.out q6)
  clear hw6
  go_wp2_with fail
  refine (CW.out _).mono ?_
  rintro e w7 ⟨rfl, q7, hw7⟩
  have HB7 : Hid (Below w.heap.size w w7) := hid (by rw [hw7]; exact below_drewN HB6.out q7)
  clear hw7
  go_wp2_with fail
  refine (CK.out _).mono ?_
  rintro e w8 ⟨⟨v8, rfl, hr8⟩, hb8⟩
  have HB8 := hid (HB7.out.trans (hb8.mono HB7.out.size))
  obtain ⟨A8, c8, rfl, hc8, hc8', hin8⟩ := hr8.intsIn
  have HI8 := hid hin8
  clear hb8 hr8 hin8
  go_wp2_with fail
  refine (CL.out _).mono ?_
  rintro e w9 ⟨⟨v9, rfl, hr9⟩, hb9⟩
  have HB9 := hid (HB8.out.trans (hb9.mono HB8.out.size))
  obtain ⟨A9, c9, rfl, hc9, hc9', hin9⟩ := hr9.intsIn
  have HI9 := hid hin9
  have HI8' := hid (HI8.out.below hb9)
  clear hb9 hr9 hin9 HI8
  have cS := sameInts_any A8 A9 l l c8 c9 _ _ w9 HI8'.out HI9.out (by omega)
  rw [decide_eq_true (show l = l from rfl)] at cS
  have CS := hid cS
  clear cS
  go_wp2_with fail
  refine CS.out.mono ?_
  rintro e w10 ⟨rfl, q, hw10⟩
  have HB10 : Hid (Below w.heap.size w w10) := hid (by rw [hw10]; exact below_drewN HB9.out q)
  clear hw10
  go_wp2
  go_ret
  exact ⟨rfl, HB10.out⟩
end Go.Proofs.YtmmphjpakoimcaaDoor
