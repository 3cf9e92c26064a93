/-
  The specification's terms: Valid, free, At, Where. Conditions: the holidays lie in memory as a slice of ints.
-/
import Derived.Test.YtkgindnlllhioaaDoorK5
import Derived.Test.YtkgindnlllhioaaDoorR1
set_option linter.unusedVariables false
namespace Go.Proofs.YtkgindnlllhioaaDoor
open Go Go.Proofs Go.RowKit Go.Lib

theorem z_of {w : World} {g : Nat} {F W : Int} {v : Value} (h : w.heap[g]? = some (.cells #[.int .i64 F, .int .i64 W, v] 37 (0, 0))) :
    w.cell? ⟨g, 0, none⟩ = some (.int .i64 F) ∧ w.cell? ⟨g, 1, none⟩ = some (.int .i64 W) ∧ w.cell? ⟨g, 2, none⟩ = some v :=
  ⟨by rw [Lib.cell_of_heap h]; rfl, by rw [Lib.cell_of_heap h]; rfl, by rw [Lib.cell_of_heap h]; rfl⟩

set_option maxHeartbeats 2000000 in
/-- Whether a day is a holiday. -/
theorem free_any (F W : Int) (A : Option Addr) (L : List Int) (c : Nat) (d : Int) (hl : L.length ≤ 9223372036854775807) (w : World) (h : IntsIn w w.heap.size A L) :
    Calls Tryd.prog 43 #[termV F W A L.length c, .int .i64 d] w fun e w' => e = .returned (.bool (decide (d ∈ L))) ∧ Below w.heap.size w w' := by
  have HB : Hid (Below w.heap.size w (w.alloc (.cells #[.int .i64 F, .int .i64 W, .slice A L.length c] 37))) := hid ((Below.refl _ w).alloc (Nat.le_refl _) _)
  have HZ : Hid ((w.alloc (.cells #[.int .i64 F, .int .i64 W, .slice A L.length c] 37)).heap[w.heap.size]? = some (.cells #[.int .i64 F, .int .i64 W, .slice A L.length c] 37 (0, 0))) := hid (heap_alloc_new w _)
  have H := hid (h.below HB.out)
  clear h
  go_enter Tryd.func43, Tryd.ntmps43
  go_wp2
  generalize w.alloc (.cells #[.int .i64 F, .int .i64 W, .slice A L.length c] 37) = w1 at HZ HB H ⊢
  obtain ⟨z0, z1, z2⟩ := z_of HZ.out
  go_loop [5] (fun i => ∃ k : Nat, k ≤ L.length ∧ i = .int .i64 k ∧ Hid (∀ j, j < k → L.getD j 0 ≠ d)) (fun i => L.length - (intOf i).toNat)
  case atStart => exact ⟨0, Nat.zero_le _, rfl, hid (fun j hj => by omega)⟩
  case round =>
    obtain ⟨k, hk, rfl, hN⟩ := hrel
    by_cases hlt : k < L.length
    · obtain ⟨b, off, rfl, hb, hc⟩ := H.out.at_ hlt
      have hltz : (k : Int) < (L.length : Int) := by omega
      obtain ⟨u, hu⟩ : ∃ u, L.getD k 0 = u := ⟨_, rfl⟩
      rw [hu] at hc
      have HU := hid hu
      clear hu
      by_cases he : u = d
      · subst he
        go_wp2
        go_ret
        have : u ∈ L := by rw [← HU.out, getD_elem hlt]; exact List.getElem_mem hlt
        exact ⟨by simp [this], HB.out⟩
      · have hne : (u == d) = false := by simpa using he
        have HE := hid he
        clear he
        go_wp2
        go_round
        case rel => exact ⟨k + 1, by omega, by go_num, hid (fun j hj => by
          by_cases e : j = k
          · subst e; rw [HU.out]; exact HE.out
          · exact hN.out j (by omega))⟩
        case measure => simp [intOf]; omega
    · have hltz : ¬ (k : Int) < (L.length : Int) := by omega
      obtain rfl : k = L.length := by omega
      go_wp2
      go_ret
      have : d ∉ L := fun hm => by
        obtain ⟨j, hj, e⟩ := List.getElem_of_mem hm
        exact hN.out j hj (by rw [getD_elem hj]; exact e)
      exact ⟨by simp [this], HB.out⟩

set_option maxHeartbeats 4000000 in
/-- The specification's Valid. -/
theorem rvalid_any (F W : Int) (A : Option Addr) (L : List Int) (c : Nat) (hl : L.length ≤ 9223372036854775807) (w : World) (h : IntsIn w w.heap.size A L) :
    Calls Tryd.prog 23 #[termV F W A L.length c] w fun e w' => e = .returned (.int .i64 (Cal.validM F W L)) ∧ Below w.heap.size w w' := by
  have cW := hid (refWeekday_any F)
  have HB : Hid (Below w.heap.size w (w.alloc (.cells #[.int .i64 F, .int .i64 W, .slice A L.length c] 37))) := hid ((Below.refl _ w).alloc (Nat.le_refl _) _)
  have HZ : Hid ((w.alloc (.cells #[.int .i64 F, .int .i64 W, .slice A L.length c] 37)).heap[w.heap.size]? = some (.cells #[.int .i64 F, .int .i64 W, .slice A L.length c] 37 (0, 0))) := hid (heap_alloc_new w _)
  have H := hid h
  clear h
  by_cases h1 : wdM F = 0
  · rw [h1] at cW
    have hf := (Cal.wdM_zero F).1 (by rw [← wd_eq]; exact h1)
    obtain ⟨⟨hf0, hf1⟩, hf2⟩ := hf
    by_cases h2 : W < 1 ∨ 20 < W
    · have e : Cal.validM F W L = 3 := by unfold Cal.validM; rw [← wd_eq]; simp [h1, h2]
      rw [e]
      clear e h1 hf2
      rcases h2 with h2 | h2
      all_goals
        go_enter Tryd.func23, Tryd.ntmps23
        go_wp2_with fail
        refine (cW.out _).mono ?_
        rintro e w2 ⟨rfl, rfl⟩
        go_wp2
        go_ret
        exact ⟨rfl, HB.out⟩
    · have h2a : 1 ≤ W := by omega
      have h2b : W ≤ 20 := by omega
      have h2c : decide (20 < W) = false := by simp; omega
      have h2d : decide (W < 1) = false := by simp; omega
      have cD := hid (valid_any (F + 7 * W - 1))
      by_cases h3 : dayB (F + 7 * W - 1) = true
      · rw [h3] at cD
        by_cases h4 : 64 < L.length
        · have e : Cal.validM F W L = 2 := by unfold Cal.validM; rw [← wd_eq, ← day_eq]; simp [h1, h2, h3, h4]
          rw [e]
          have h4z : (64 : Int) < (L.length : Int) := by omega
          clear e h1 hf2 h2 h3
          go_enter Tryd.func23, Tryd.ntmps23
          go_wp2_with fail
          refine (cW.out _).mono ?_
          rintro e w2 ⟨rfl, rfl⟩
          go_wp2_with fail
          refine (cD.out _).mono ?_
          rintro e w2 ⟨rfl, rfl⟩
          go_wp2
          go_ret
          exact ⟨rfl, HB.out⟩
        · have e : Cal.validM F W L = Cal.holM F (F + 7 * W - 1) L 0 := by unfold Cal.validM; rw [← wd_eq, ← day_eq]; simp [h1, h2, h3, h4]
          obtain ⟨R, hR⟩ : ∃ R, Cal.holM F (F + 7 * W - 1) L 0 = R := ⟨_, rfl⟩
          rw [e, hR]
          have HR := hid hR
          have h4z : ¬ (64 : Int) < (L.length : Int) := by omega
          clear e h1 hf2 h2 h3 hR
          have H1 := hid (H.out.below HB.out)
          go_enter Tryd.func23, Tryd.ntmps23
          go_wp2_with fail
          refine (cW.out _).mono ?_
          rintro e w2 ⟨rfl, rfl⟩
          go_wp2_with fail
          refine (cD.out _).mono ?_
          rintro e w2 ⟨rfl, rfl⟩
          go_wp2
          generalize w.alloc (.cells #[.int .i64 F, .int .i64 W, .slice A L.length c] 37) = w1 at HZ HB H1 ⊢
          go_loopw [4] (fun i wr => ∃ k : Nat, k ≤ L.length ∧ i = .int .i64 k ∧ Hid (Cal.holM F (F + 7 * W - 1) L k = R) ∧ Hid (wr.heap[w.heap.size]? = some (.cells #[.int .i64 F, .int .i64 W, .slice A L.length c] 37 (0, 0))) ∧ Hid (Below w.heap.size w wr)) (fun i _ => L.length - (intOf i).toNat)
          case atStart => exact ⟨0, Nat.zero_le _, rfl, HR, HZ, HB⟩
          case round =>
            obtain ⟨k, hk, rfl, hH, hZ, hB⟩ := hrel
            obtain ⟨z0, z1, z2⟩ := z_of hZ.out
            by_cases hlt : k < L.length
            · have hltz : (k : Int) < (L.length : Int) := by omega
              obtain ⟨b, off, rfl, hb, hc⟩ := (H.out.below hB.out).at_ hlt
              obtain ⟨u, hu⟩ : ∃ u, L.getD k 0 = u := ⟨_, rfl⟩
              rw [hu] at hc
              have HU := hid hu
              clear hu
              by_cases hin : F ≤ u ∧ u ≤ F + 7 * W - 1
              · have HIN := hid hin
                have g1 : decide (u < F) = false := by simp; omega
                have g2 : decide (F + 7 * W - 1 < u) = false := by simp; omega
                by_cases hk0 : k = 0
                · subst hk0
                  have hnx := hid ((Cal.holM_on hlt (by rw [HU.out]; exact hin) (by omega)).symm.trans hH.out)
                  clear hin
                  simp only [Nat.add_zero] at hc
                  go_wp2
                  go_quiet (fail)
                  have hZ' : Hid ((wr.drewN nq).heap[w.heap.size]? = some (.cells #[.int .i64 F, .int .i64 W, .slice (some ⟨b, off, none⟩) L.length c] 37 (0, 0))) := hid hZ.out
                  have hB' := hid (below_drawn hB.out nq)
                  have hc' : (wr.drewN nq).cell? ⟨b, off, none⟩ = some (.int .i64 u) := hc
                  generalize wr.drewN nq = w2 at hZ' hB' hc' ⊢
                  clear z0 z1 z2 hc
                  obtain ⟨z0, z1, z2⟩ := z_of hZ'.out
                  go_wp2
                  go_quiet (fail)
                  go_wp2
                  go_roundw
                  case rel => exact ⟨1, by omega, by go_num, hnx, hid hZ'.out, hid (below_drawn hB'.out nq)⟩
                  case measure => simp [intOf]; omega
                · obtain ⟨j, rfl⟩ : ∃ j, k = j + 1 := ⟨k - 1, by omega⟩
                  obtain ⟨b', off', hA, _, hcp⟩ := (H.out.below hB.out).at_ (show j < L.length by omega)
                  injection hA with hA
                  injection hA with hA1 hA2 _
                  subst hA1 hA2
                  obtain ⟨v, hv⟩ : ∃ v, L.getD j 0 = v := ⟨_, rfl⟩
                  rw [hv] at hcp
                  have HV := hid hv
                  clear hv
                  by_cases hle : u ≤ v
                  · have hR := hid ((Cal.holM_11 hlt (by rw [HU.out]; exact hin) (by omega) (by rw [HU.out]; simp only [Nat.add_sub_cancel]; rw [HV.out]; exact hle)).symm.trans hH.out)
                    clear hin
                    go_wp2
                    go_quiet (fail)
                    have hZ' : Hid ((wr.drewN nq).heap[w.heap.size]? = some (.cells #[.int .i64 F, .int .i64 W, .slice (some ⟨b, off, none⟩) L.length c] 37 (0, 0))) := hid hZ.out
                    have hB' := hid (below_drawn hB.out nq)
                    have hc' : (wr.drewN nq).cell? ⟨b, off + (j + 1), none⟩ = some (.int .i64 u) := hc
                    have hcp' : (wr.drewN nq).cell? ⟨b, off + j, none⟩ = some (.int .i64 v) := hcp
                    generalize wr.drewN nq = w2 at hZ' hB' hc' hcp' ⊢
                    clear z0 z1 z2 hc hcp
                    obtain ⟨z0, z1, z2⟩ := z_of hZ'.out
                    go_wp2
                    go_quiet (fail)
                    go_wp2
                    go_ret
                    exact ⟨by rw [← hR.out]; rfl, below_drawn hB'.out nq⟩
                  · have hle' : decide (u ≤ v) = false := by simpa using hle
                    have hnx := hid ((Cal.holM_on hlt (by rw [HU.out]; exact hin) (by rw [HU.out]; simp only [Nat.add_sub_cancel]; rw [HV.out]; omega)).symm.trans hH.out)
                    clear hin
                    go_wp2
                    go_quiet (fail)
                    have hZ' : Hid ((wr.drewN nq).heap[w.heap.size]? = some (.cells #[.int .i64 F, .int .i64 W, .slice (some ⟨b, off, none⟩) L.length c] 37 (0, 0))) := hid hZ.out
                    have hB' := hid (below_drawn hB.out nq)
                    have hc' : (wr.drewN nq).cell? ⟨b, off + (j + 1), none⟩ = some (.int .i64 u) := hc
                    have hcp' : (wr.drewN nq).cell? ⟨b, off + j, none⟩ = some (.int .i64 v) := hcp
                    generalize wr.drewN nq = w2 at hZ' hB' hc' hcp' ⊢
                    clear z0 z1 z2 hc hcp
                    obtain ⟨z0, z1, z2⟩ := z_of hZ'.out
                    go_wp2
                    go_quiet (fail)
                    go_wp2
                    go_roundw
                    case rel => exact ⟨j + 1 + 1, by omega, by go_num, hnx, hid hZ'.out, hid (below_drawn hB'.out nq)⟩
                    case measure => simp [intOf]; omega
              · have hR := hid ((Cal.holM_13 hlt (by rw [HU.out]; exact hin)).symm.trans hH.out)
                by_cases g1 : u < F
                · clear hin
                  go_wp2
                  go_quiet (fail)
                  go_wp2
                  go_ret
                  exact ⟨by rw [← hR.out]; rfl, below_drawn hB.out nq⟩
                · have g1' : decide (u < F) = false := by simpa using g1
                  have g2 : F + 7 * W - 1 < u := by omega
                  clear hin
                  go_wp2
                  go_quiet (fail)
                  go_wp2
                  go_ret
                  exact ⟨by rw [← hR.out]; rfl, below_drawn hB.out nq⟩
            · have hltz : ¬ (k : Int) < (L.length : Int) := by omega
              obtain rfl : k = L.length := by omega
              go_wp2
              go_ret
              exact ⟨by rw [← hH.out, Cal.holM_end _ _ _ _ (Nat.le_refl _)]; rfl, hB.out⟩
      · have h3' : dayB (F + 7 * W - 1) = false := by simpa using h3
        rw [h3'] at cD
        have e : Cal.validM F W L = 13 := by unfold Cal.validM; rw [← wd_eq, ← day_eq]; simp [h1, h2, h3']
        rw [e]
        clear e h1 hf2 h2 h3 h3'
        go_enter Tryd.func23, Tryd.ntmps23
        go_wp2_with fail
        refine (cW.out _).mono ?_
        rintro e w2 ⟨rfl, rfl⟩
        go_wp2_with fail
        refine (cD.out _).mono ?_
        rintro e w2 ⟨rfl, rfl⟩
        go_wp2
        go_ret
        exact ⟨rfl, HB.out⟩
  · have e : Cal.validM F W L = 13 := by unfold Cal.validM; rw [← wd_eq]; simp [h1]
    rw [e]
    have hne : (wdM F == 0) = false := by simpa using h1
    have hne' : (wdM F != 0) = true := by simpa using h1
    generalize wdM F = d at cW hne hne'
    clear e h1
    go_enter Tryd.func23, Tryd.ntmps23
    go_wp2_with fail
    refine (cW.out _).mono ?_
    rintro e w2 ⟨rfl, rfl⟩
    go_wp2
    go_ret
    exact ⟨rfl, HB.out⟩
end Go.Proofs.YtkgindnlllhioaaDoor
