/-
  A slice of strings that came in: what it holds. Conditions: as the lemma states.
-/
import Derived.Test.YtldnbneblpebiaaGreatDoorLaw
import Derived.Test.YtldnbneblpebiaaGreatDoorCheck
import Derived.Deep.Strs
set_option linter.unusedVariables false
set_option maxRecDepth 100000
namespace Go.Proofs.YtldnbneblpebiaaGreatDoor
open Go Go.Proofs Go.ChangeShapes Go.WideShapes Go.ChangeAt Go.RowKit Go.Lib Go.Deep

theorem cells9 : Tryz.prog.cellsOf 9 = 1 := by kernel_rfl
section
variable {H : Type} {enc : TypeId × Value → H}
theorem open_strlist {W : World} {base : Nat} {v : Value} {d : DataW H} {p : List MemPlace} (hv : Value.okWide Tryz.prog W .any base 34 v) (h : DataW.Trod enc Tryz.prog W 0 (fun _ => true) true 34 v d p) :
    ∃ A l c, v = .slice A (List.length l) c ∧ StrsIn W (fun b => b < W.heap.size) A l ∧ l.length ≤ c ∧ c ≤ 9223372036854775807 := by
  obtain ⟨a0, len, cap, rfl⟩ := okWide_slice Tryz.underlying34 hv
  obtain ⟨fuel, hf⟩ := h
  rcases open_strs Tryz.underlying34 Tryz.underlying9 cells9 hf with ⟨hcs, _⟩ | ⟨a, len', cap', m, Sx, hcs, _, hl, hm, hmm, _, hcell⟩
  · simp [Value.cells] at hcs
    obtain ⟨rfl, rfl, rfl⟩ := hcs
    exact ⟨none, [], 0, rfl, .inl rfl, Nat.le_refl _, by omega⟩
  · simp [Value.cells] at hcs
    obtain ⟨rfl, rfl, rfl⟩ := hcs
    have hmc : m = cap := by simpa using hmm
    subst hmc
    refine ⟨some a, (List.range len).map (fun i => lst (Sx i)), m, by simp, ?_, by simpa using hl, by unfold maxLen at hm; omega⟩
    rcases Nat.eq_zero_or_pos len with h0 | h0
    · subst h0; exact .inl rfl
    · obtain ⟨b, off, spot⟩ := a
      have hspot : spot = none := by simpa [Addr.add] using World.cell?_spot (hcell 0 (by omega)).1
      subst hspot
      have hc0 := (hcell 0 (by omega)).1
      refine .inr ⟨b, off, rfl, World.block_lt_of_cell? W _ (by rw [Go.WideShapes.add_plain] at hc0; exact hc0), fun j s hj => ?_⟩
      rw [List.getElem?_map] at hj
      obtain ⟨i, hi, rfl⟩ := Option.map_eq_some_iff.1 hj
      have hjl : j < len := by
        have := (List.getElem?_eq_some_iff.1 hi).1
        simpa using this
      rw [List.getElem?_range hjl] at hi
      obtain rfl := Option.some.inj hi
      rw [← Go.WideShapes.add_plain, (hcell j (by omega)).1]
      show some (Value.string (Sx j)) = some (strV (lst (Sx j)))
      exact congrArg some (congrArg Value.string (by cases Sx j; rfl))
end
end Go.Proofs.YtldnbneblpebiaaGreatDoor
