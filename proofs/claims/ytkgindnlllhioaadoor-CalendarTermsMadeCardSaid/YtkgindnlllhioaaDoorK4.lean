/-
  The program's terms: checkHolidays, Valid. Conditions: the holidays lie in memory as a slice of ints.
-/
import Derived.Test.YtkgindnlllhioaaDoorK3
set_option linter.unusedVariables false
namespace Go.Proofs.YtkgindnlllhioaaDoor
open Go Go.Proofs Go.RowKit Go.Lib

set_option maxHeartbeats 2000000 in
theorem checkHolidays_any (F W : Int) (A : Option Addr) (L : List Int) (c : Nat) (hF : 0 ≤ F ∧ F ≤ 100000) (hW : 0 ≤ W ∧ W ≤ 1000) (hl : L.length ≤ 64) (w : World) (h : IntsIn w w.heap.size A L) :
    Calls Tryd.prog 46 #[termV F W A L.length c] w fun e w' => e = .returned (.int .i64 (Cal.holM F (F + 7 * W - 1) L 0)) ∧ Below w.heap.size w w' := by
  have c1 := hid (fun d w => belongs_any F W A L.length c d hF hW w)
  have H := hid h
  obtain ⟨R, hR⟩ : ∃ R, Cal.holM F (F + 7 * W - 1) L 0 = R := ⟨_, rfl⟩
  rw [hR]
  have HR := hid hR
  have hb0 : Below w.heap.size w (w.alloc (.cells #[.int .i64 F, .int .i64 W, .slice A L.length c] 37)) := (Below.refl _ w).alloc (Nat.le_refl _) _
  have HZ : Hid ((w.alloc (.cells #[.int .i64 F, .int .i64 W, .slice A L.length c] 37)).heap[w.heap.size]? = some (.cells #[.int .i64 F, .int .i64 W, .slice A L.length c] 37 (0, 0))) := hid (heap_alloc_new w _)
  have HB := hid hb0
  clear h hR hb0
  go_enter Tryd.func46, Tryd.ntmps46
  go_wp2
  generalize w.alloc (.cells #[.int .i64 F, .int .i64 W, .slice A L.length c] 37) = w1 at HZ HB ⊢
  go_loopw [3, 4, 8] (fun _ _ i wr => ∃ k : Nat, k ≤ L.length ∧ i = .int .i64 k ∧ Hid (Cal.holM F (F + 7 * W - 1) L k = R) ∧ Hid (wr.heap[w.heap.size]? = some (.cells #[.int .i64 F, .int .i64 W, .slice A L.length c] 37 (0, 0))) ∧ Hid (Below w.heap.size w wr)) (fun _ _ i _ => L.length - (intOf i).toNat)
  case atStart => exact ⟨0, Nat.zero_le _, rfl, HR, HZ, HB⟩
  case round =>
    obtain ⟨k, hk, rfl, hH, hZ, hB⟩ := hrel
    have z0 : wr.cell? ⟨w.heap.size, 0, none⟩ = some (.int .i64 F) := by rw [Lib.cell_of_heap hZ.out]; rfl
    have z1 : wr.cell? ⟨w.heap.size, 1, none⟩ = some (.int .i64 W) := by rw [Lib.cell_of_heap hZ.out]; rfl
    have z2 : wr.cell? ⟨w.heap.size, 2, none⟩ = some (.slice A L.length c) := by rw [Lib.cell_of_heap hZ.out]; rfl
    by_cases hlt : k < L.length
    · have hltz : (k : Int) < (L.length : Int) := by omega
      obtain ⟨b, off, rfl, hb, hc⟩ := (H.out.below hB.out).at_ hlt
      obtain ⟨u, hu⟩ : ∃ u, L.getD k 0 = u := ⟨_, rfl⟩
      rw [hu] at hc
      have hlz : w.heap.size < wr.heap.size := (Array.getElem?_eq_some_iff.1 hZ.out).1
      have hbw : b < wr.heap.size := by omega
      have HU := hid hu
      have cB := hid (c1.out u)
      obtain ⟨hi, hhi⟩ : ∃ hi, F + 7 * W - 1 = hi := ⟨_, rfl⟩
      rw [hhi] at cB hH
      have HHI := hid hhi
      clear hu
      by_cases hin : F ≤ u ∧ u ≤ hi
      · rw [decide_eq_true hin] at cB
        have hin' := hid hin
        by_cases hk0 : k = 0
        · subst hk0
          have hnx := hid ((Cal.holM_on hlt (by rw [HU.out]; exact hin) (by omega)).symm.trans hH.out)
          clear hin hhi
          simp only [Nat.add_zero] at hc
          go_wp2_with fail
          refine (cB.out _).mono ?_
          rintro e w2 ⟨rfl, hb2⟩
          obtain ⟨hc2, _⟩ := bcell hb2
          have y0 := (hc2 _ 0 hlz).trans z0
          have y1 := (hc2 _ 1 hlz).trans z1
          have y2 := (hc2 _ 2 hlz).trans z2
          have y3 := (hc2 _ off hbw).trans hc
          have HB2 := hid (hB.out.trans (hb2.mono hB.out.size))
          have HZ2 := hid ((hb2.block _ hlz).trans hZ.out)
          clear hb2 hc2 z0 z1 z2 hc
          go_wp2
          go_roundw
          case rel => exact ⟨1, by omega, by go_num, by rw [HHI.out]; exact hnx, HZ2, HB2⟩
          case measure => simp [intOf]; omega
        · obtain ⟨j, rfl⟩ : ∃ j, k = j + 1 := ⟨k - 1, by omega⟩
          obtain ⟨b', off', hA, _, hcp⟩ := (H.out.below hB.out).at_ (show j < L.length by omega)
          injection hA with hA
          injection hA with hA1 hA2 _
          subst hA1 hA2
          obtain ⟨v, hv⟩ : ∃ v, L.getD j 0 = v := ⟨_, rfl⟩
          rw [hv] at hcp
          have HV := hid hv
          clear hv
          by_cases hle : u ≤ v
          · have hR := hid ((Cal.holM_11 hlt (by rw [HU.out]; exact hin) (by omega) (by rw [HU.out]; simp only [Nat.add_sub_cancel]; rw [HV.out]; exact hle)).symm.trans hH.out)
            clear hin hhi
            go_wp2_with fail
            refine (cB.out _).mono ?_
            rintro e w2 ⟨rfl, hb2⟩
            obtain ⟨hc2, _⟩ := bcell hb2
            have y0 := (hc2 _ 0 hlz).trans z0
            have y1 := (hc2 _ 1 hlz).trans z1
            have y2 := (hc2 _ 2 hlz).trans z2
            have y3 := (hc2 _ (off + (j + 1)) hbw).trans hc
            have HB2 := hid (hB.out.trans (hb2.mono hB.out.size))
            have HZ2 := hid ((hb2.block _ hlz).trans hZ.out)
            have y4 := (hc2 _ (off + j) hbw).trans hcp
            clear hb2 hc2 z0 z1 z2 hc hcp
            go_wp2
            go_ret
            exact ⟨by rw [← hR.out]; rfl, HB2.out⟩
          · have hnx := hid ((Cal.holM_on hlt (by rw [HU.out]; exact hin) (by rw [HU.out]; simp only [Nat.add_sub_cancel]; rw [HV.out]; omega)).symm.trans hH.out)
            clear hin hhi
            go_wp2_with fail
            refine (cB.out _).mono ?_
            rintro e w2 ⟨rfl, hb2⟩
            obtain ⟨hc2, _⟩ := bcell hb2
            have y0 := (hc2 _ 0 hlz).trans z0
            have y1 := (hc2 _ 1 hlz).trans z1
            have y2 := (hc2 _ 2 hlz).trans z2
            have y3 := (hc2 _ (off + (j + 1)) hbw).trans hc
            have HB2 := hid (hB.out.trans (hb2.mono hB.out.size))
            have HZ2 := hid ((hb2.block _ hlz).trans hZ.out)
            have y4 := (hc2 _ (off + j) hbw).trans hcp
            clear hb2 hc2 z0 z1 z2 hc hcp
            go_wp2
            go_roundw
            case rel => exact ⟨j + 1 + 1, by omega, by go_num, by rw [HHI.out]; exact hnx, HZ2, HB2⟩
            case measure => simp [intOf]; omega
      · rw [decide_eq_false hin] at cB
        have hR := hid ((Cal.holM_13 hlt (by rw [HU.out]; exact hin)).symm.trans hH.out)
        clear hin hhi
        go_wp2_with fail
        refine (cB.out _).mono ?_
        rintro e w2 ⟨rfl, hb2⟩
        obtain ⟨hc2, _⟩ := bcell hb2
        have y0 := (hc2 _ 0 hlz).trans z0
        have y1 := (hc2 _ 1 hlz).trans z1
        have y2 := (hc2 _ 2 hlz).trans z2
        have y3 := (hc2 _ (off + k) hbw).trans hc
        have HB2 := hid (hB.out.trans (hb2.mono hB.out.size))
        have HZ2 := hid ((hb2.block _ hlz).trans hZ.out)
        clear hb2 hc2 z0 z1 z2 hc
        go_wp2
        go_ret
        exact ⟨by rw [← hR.out]; rfl, HB2.out⟩
    · have hltz : ¬ (k : Int) < (L.length : Int) := by omega
      obtain rfl : k = L.length := by omega
      go_wp2
      go_ret
      exact ⟨by rw [← hH.out, Cal.holM_end _ _ _ _ (Nat.le_refl _)]; rfl, hB.out⟩

/-- The program's Valid. -/
theorem tvalid_any (F W : Int) (A : Option Addr) (L : List Int) (c : Nat) (hl : L.length ≤ 9223372036854775807) (w : World) (h : IntsIn w w.heap.size A L) :
    Calls Tryd.prog 22 #[termV F W A L.length c] w fun e w' => e = .returned (.int .i64 (Cal.validM F W L)) ∧ Below w.heap.size w w' := by
  have cW := hid (weekday_any F)
  have hb0 : Below w.heap.size w (w.alloc (.cells #[.int .i64 F, .int .i64 W, .slice A L.length c] 37)) := (Below.refl _ w).alloc (Nat.le_refl _) _
  have HB := hid hb0
  have H := hid h
  clear hb0 h
  by_cases h1 : wdM F = 0
  · rw [h1] at cW
    have hf := (Cal.wdM_zero F).1 (by rw [← wd_eq]; exact h1)
    obtain ⟨⟨hf0, hf1⟩, hf2⟩ := hf
    by_cases h2 : W < 1 ∨ 20 < W
    · have e : Cal.validM F W L = 3 := by unfold Cal.validM; rw [← wd_eq]; simp [h1, h2]
      rw [e]
      clear e h1 hf2
      rcases h2 with h2 | h2
      all_goals
        go_enter Tryd.func22, Tryd.ntmps22
        go_wp2_with fail
        refine (cW.out _).mono ?_
        rintro e w2 ⟨rfl, rfl⟩
        go_wp2
        go_ret
        exact ⟨rfl, HB.out⟩
    · have h2a : 1 ≤ W := by omega
      have h2b : W ≤ 20 := by omega
      have h2c : decide (20 < W) = false := by simp; omega
      have h2d : decide (W < 1) = false := by simp; omega
      have cL := hid (fun w => lastOf_any F W A L.length c (by omega) (by omega) w)
      have cD := hid (isDay_any (F + 7 * W - 1))
      by_cases h3 : dayB (F + 7 * W - 1) = true
      · rw [h3] at cD
        by_cases h4 : 64 < L.length
        · have e : Cal.validM F W L = 2 := by unfold Cal.validM; rw [← wd_eq, ← day_eq]; simp [h1, h2, h3, h4]
          rw [e]
          have h4z : (64 : Int) < (L.length : Int) := by omega
          clear e h1 hf2 h2 h3
          go_enter Tryd.func22, Tryd.ntmps22
          go_wp2_with fail
          refine (cW.out _).mono ?_
          rintro e w2 ⟨rfl, rfl⟩
          go_wp2_with fail
          refine (cL.out _).mono ?_
          rintro e w2 ⟨rfl, hb2⟩
          obtain ⟨hc2, _⟩ := bcell hb2
          have HB2 := hid (HB.out.trans (hb2.mono HB.out.size))
          clear hb2
          go_wp2_with fail
          refine (cD.out _).mono ?_
          rintro e w2 ⟨rfl, rfl⟩
          go_wp2
          go_ret
          exact ⟨rfl, HB2.out⟩
        · have e : Cal.validM F W L = Cal.holM F (F + 7 * W - 1) L 0 := by unfold Cal.validM; rw [← wd_eq, ← day_eq]; simp [h1, h2, h3, h4]
          rw [e]
          have h4z : ¬ (64 : Int) < (L.length : Int) := by omega
          have cH := hid (fun w h => checkHolidays_any F W A L c (by omega) (by omega) (by omega) w h)
          clear e h1 hf2 h2 h3
          go_enter Tryd.func22, Tryd.ntmps22
          go_wp2_with fail
          refine (cW.out _).mono ?_
          rintro e w2 ⟨rfl, rfl⟩
          go_wp2_with fail
          refine (cL.out _).mono ?_
          rintro e w2 ⟨rfl, hb2⟩
          obtain ⟨hc2, _⟩ := bcell hb2
          have HB2 := hid (HB.out.trans (hb2.mono HB.out.size))
          clear hb2
          go_wp2_with fail
          refine (cD.out _).mono ?_
          rintro e w2 ⟨rfl, rfl⟩
          go_wp2_with fail
          refine (cH.out _ ((H.out.below HB2.out).mono HB2.out.size)).mono ?_
          rintro e w3 ⟨rfl, hb3⟩
          have HB3 := hid (HB2.out.trans (hb3.mono HB2.out.size))
          clear hb3
          go_wp2
          go_ret
          exact ⟨rfl, HB3.out⟩
      · have h3' : dayB (F + 7 * W - 1) = false := by simpa using h3
        rw [h3'] at cD
        have e : Cal.validM F W L = 13 := by unfold Cal.validM; rw [← wd_eq, ← day_eq]; simp [h1, h2, h3']
        rw [e]
        clear e h1 hf2 h2 h3 h3'
        go_enter Tryd.func22, Tryd.ntmps22
        go_wp2_with fail
        refine (cW.out _).mono ?_
        rintro e w2 ⟨rfl, rfl⟩
        go_wp2_with fail
        refine (cL.out _).mono ?_
        rintro e w2 ⟨rfl, hb2⟩
        have HB2 := hid (HB.out.trans (hb2.mono HB.out.size))
        clear hb2
        go_wp2_with fail
        refine (cD.out _).mono ?_
        rintro e w2 ⟨rfl, rfl⟩
        go_wp2
        go_ret
        exact ⟨rfl, HB2.out⟩
  · have e : Cal.validM F W L = 13 := by unfold Cal.validM; rw [← wd_eq]; simp [h1]
    rw [e]
    have hne : (wdM F == 0) = false := by simpa using h1
    have hne' : (wdM F != 0) = true := by simpa using h1
    generalize wdM F = d at cW hne hne'
    clear e h1
    go_enter Tryd.func22, Tryd.ntmps22
    go_wp2_with fail
    refine (cW.out _).mono ?_
    rintro e w2 ⟨rfl, rfl⟩
    go_wp2
    go_ret
    exact ⟨rfl, HB.out⟩
end Go.Proofs.YtkgindnlllhioaaDoor
