/-
  A slice of integers that came in: what they hold. Conditions: as the lemmas state.
  The tables of people and of features, as their text lays them. Condition: the variables are listed.
-/
import Derived.Test.YtigdcgklpapfbaaGreatDoorVR32
set_option linter.unusedVariables false
set_option maxRecDepth 100000
namespace Go.Proofs.YtigdcgklpapfbaaGreatDoor
open Go Go.Proofs Go.ChangeShapes Go.WideShapes Go.ChangeAt Go.RowKit

theorem cells3 : Tryz.prog.cellsOf 3 = 1 := by kernel_rfl
section
variable {H : Type} {enc : TypeId × Value → H}
theorem open_intcells {W : World} {fuel : Nat} {v : Value} {x : DataW H × List MemPlace} (hf : DataW.trod enc Tryz.prog W 0 (fun _ => true) true fuel 29 [v] = some x) :
    ∃ A L c, v = .slice A (List.length L) c ∧ IntsIn W W.heap.size A L ∧ L.length ≤ 9223372036854775807 := by
  rcases open_ints Tryz.underlying29 Tryz.underlying3 cells3 hf with ⟨hcs, _⟩ | ⟨a, len, cap, zs, hcs, _, hl, hm, hz, _, hcell, hwz⟩
  · simp at hcs
    subst hcs
    exact ⟨none, [], 0, rfl, .inl rfl, by simp⟩
  · simp at hcs
    subst hcs
    have hz' : zs.length = cap := by simpa using hz
    refine ⟨some a, zs.take len, cap, ?_, ?_, ?_⟩
    · rw [List.length_take, Nat.min_eq_left (by omega)]
    · rcases Nat.eq_zero_or_pos len with h0 | h0
      · subst h0; exact .inl (by simp)
      · obtain ⟨b, off, rfl, hc⟩ := ints_at hcell (by omega)
        refine .inr ⟨b, off, rfl, World.block_lt_of_cell? W _ (hc 0 (by omega)), fun j u hu => ?_⟩
        have hj : j < len := by
          have := (List.getElem?_eq_some_iff.1 hu).1
          simp at this
          omega
        rw [hc j (by omega)]
        rw [List.getElem?_take, if_pos hj, List.getElem?_eq_getElem (by omega)] at hu
        simp only [Option.some.injEq] at hu
        subst hu
        have e : zs.getD j 0 = zs[j] := by simp [List.getD, List.getElem?_eq_getElem (show j < zs.length by omega)]
        rw [e]
    · unfold maxLen at hm
      rw [List.length_take]
      omega
theorem open_intlist {W : World} {base : Nat} {v : Value} {d : DataW H} {p : List MemPlace} (hv : Value.okWide Tryz.prog W .any base 29 v) (h : DataW.Trod enc Tryz.prog W 0 (fun _ => true) true 29 v d p) :
    ∃ A L c, v = .slice A (List.length L) c ∧ IntsIn W W.heap.size A L ∧ L.length ≤ 9223372036854775807 := by
  obtain ⟨a0, len, cap, rfl⟩ := okWide_slice Tryz.underlying29 hv
  obtain ⟨fuel, hf⟩ := h
  exact open_intcells hf
end
end Go.Proofs.YtigdcgklpapfbaaGreatDoor

set_option linter.unusedVariables false
set_option maxRecDepth 100000
namespace Go.Proofs.YtigdcgklpapfbaaGreatDoor.S10
open Go Go.Proofs Go.ChangeShapes Go.WideShapes Go.ChangeAt Go.RowKit Go.Deep Go.Proofs.YtigdcgklpapfbaaGreatDoor

theorem gPeople : Tryz.prog.globalNamed "timetable/timetablemade.people" = some 0 := by kernel_rfl
theorem cells9' : Tryz.prog.cellsOf 9 = 1 := by kernel_rfl
/-- The table of people stands somewhere. -/
def People (W : World) : Prop := ∃ PB po pc, PeopleAt W PB po pc ∧ PB < W.heap.size
theorem people_ofL {W : World} {L : List (String × DataW Unit)} (hL : laidMet Tryz.prog L W) (hm : ("timetable/timetablemade.people", (Rows.laid_timetable_timetablemade_people : DataW Unit)) ∈ L) : People W := by
  obtain ⟨g, t, cs, fuel, p, hg, hty, hvar, hd⟩ := Lib.laidMet.reads hL hm
  obtain rfl := Option.some.inj (gPeople.symm.trans hg)
  obtain rfl := Option.some.inj ((show (Tryz.prog.globals[0]?).map (·.type) = some 30 by kernel_rfl).symm.trans hty)
  rcases open_slice Tryz.underlying30 hd with ⟨_, h⟩ | ⟨a, len, cap, mm, n, D, Pl, hcs, _, hl, hmx, hmm, hx, hel⟩
  · injection h with h _
    unfold Rows.laid_timetable_timetablemade_people at h
    cases h
  · injection hx with hx _
    unfold Rows.laid_timetable_timetablemade_people at hx
    injection hx with h1 h2
    have hlen : len = 3 := by have := congrArg List.length h1; simpa using this.symm
    subst hlen
    have hm3 : 3 ≤ mm := by rw [hmm]; split <;> omega
    have hD : ∀ i, i < 3 → D i = .lit (.string (personS i)) := by
      intro i hi
      have h := congrArg (·[i]?) h1
      rcases (show i = 0 ∨ i = 1 ∨ i = 2 by omega) with rfl | rfl | rfl
      all_goals
        simp at h
        exact h.symm
    have hc : ∀ i, i < 3 → W.cell? (a.add i) = some (.string (ba (personS i))) := by
      intro i hi
      obtain ⟨cs', e1, e2⟩ := hel i (by omega)
      rw [cells9', Nat.mul_one] at e1
      obtain ⟨s, rfl, e3, _⟩ := DataW.trod_string Tryz.underlying9 e2
      have h0 := (World.cells?_some e1).2.2 0 (by omega)
      have hs : s = ba (personS i) := by
        injection e3 with e3 _
        rw [hD i hi] at e3
        injection e3 with e3
        injection e3 with e3
        exact ba_of e3.symm
      subst hs
      obtain ⟨b, off, spot⟩ := a
      simpa [Addr.add] using h0
    obtain ⟨b, off, spot⟩ := a
    have hspot : spot = none := by simpa [Addr.add] using World.cell?_spot (hc 0 (by omega))
    subst hspot
    have hc' : ∀ i, i < 3 → W.cell? ⟨b, off + i, none⟩ = some (.string (ba (personS i))) := fun i hi => by rw [← Go.WideShapes.add_plain]; exact hc i hi
    refine ⟨b, off, cap, ⟨?_, hc'⟩, World.block_lt_of_cell? W _ (hc' 0 (by omega))⟩
    rw [World.var?_cell gPeople hvar 0, ← Array.getElem?_toList, hcs]
    rfl
def featS : Nat → Str
  | 0 => [98, 101, 97, 109, 101, 114]
  | 1 => [108, 97, 98]
  | 2 => [112, 105, 97, 110, 111]
  | _ => []
theorem gFeatures : Tryz.prog.globalNamed "timetable/timetablemade.features" = some 3 := by kernel_rfl
theorem cells9f : Tryz.prog.cellsOf 9 = 1 := by kernel_rfl
/-- The table of features stands somewhere. -/
def Features (W : World) : Prop := ∃ PB po pc, FeatAt W PB po pc ∧ PB < W.heap.size
theorem features_ofL {W : World} {L : List (String × DataW Unit)} (hL : laidMet Tryz.prog L W) (hm : ("timetable/timetablemade.features", (Rows.laid_timetable_timetablemade_features : DataW Unit)) ∈ L) : Features W := by
  obtain ⟨g, t, cs, fuel, p, hg, hty, hvar, hd⟩ := Lib.laidMet.reads hL hm
  obtain rfl := Option.some.inj (gFeatures.symm.trans hg)
  obtain rfl := Option.some.inj ((show (Tryz.prog.globals[3]?).map (·.type) = some 30 by kernel_rfl).symm.trans hty)
  rcases open_slice Tryz.underlying30 hd with ⟨_, h⟩ | ⟨a, len, cap, mm, n, D, Pl, hcs, _, hl, hmx, hmm, hx, hel⟩
  · injection h with h _
    unfold Rows.laid_timetable_timetablemade_features at h
    cases h
  · injection hx with hx _
    unfold Rows.laid_timetable_timetablemade_features at hx
    injection hx with h1 h2
    have hlen : len = 3 := by have := congrArg List.length h1; simpa using this.symm
    subst hlen
    have hm3 : 3 ≤ mm := by rw [hmm]; split <;> omega
    have hD : ∀ i, i < 3 → D i = .lit (.string (featS i)) := by
      intro i hi
      have h := congrArg (·[i]?) h1
      rcases (show i = 0 ∨ i = 1 ∨ i = 2 by omega) with rfl | rfl | rfl
      all_goals
        simp at h
        exact h.symm
    have hc : ∀ i, i < 3 → W.cell? (a.add i) = some (.string (ba (featS i))) := by
      intro i hi
      obtain ⟨cs', e1, e2⟩ := hel i (by omega)
      rw [cells9f, Nat.mul_one] at e1
      obtain ⟨s, rfl, e3, _⟩ := DataW.trod_string Tryz.underlying9 e2
      have h0 := (World.cells?_some e1).2.2 0 (by omega)
      have hs : s = ba (featS i) := by
        injection e3 with e3 _
        rw [hD i hi] at e3
        injection e3 with e3
        injection e3 with e3
        exact ba_of e3.symm
      subst hs
      obtain ⟨b, off, spot⟩ := a
      simpa [Addr.add] using h0
    obtain ⟨b, off, spot⟩ := a
    have hspot : spot = none := by simpa [Addr.add] using World.cell?_spot (hc 0 (by omega))
    subst hspot
    have hc' : ∀ i, i < 3 → W.cell? ⟨b, off + i, none⟩ = some (.string (ba (featS i))) := fun i hi => by rw [← Go.WideShapes.add_plain]; exact hc i hi
    refine ⟨b, off, cap, ⟨?_, fun j t hj => ?_⟩, World.block_lt_of_cell? W _ (hc' 0 (by omega))⟩
    rotate_left
    · have hj3 : j < 3 := (List.getElem?_eq_some_iff.1 hj).1
      have e : t = featS j := by
        rcases (show j = 0 ∨ j = 1 ∨ j = 2 by omega) with rfl | rfl | rfl <;> exact (Option.some.inj hj).symm
      rw [e]
      exact hc' j hj3
    rw [World.var?_cell gFeatures hvar 0, ← Array.getElem?_toList, hcs]
    rfl
end Go.Proofs.YtigdcgklpapfbaaGreatDoor.S10
