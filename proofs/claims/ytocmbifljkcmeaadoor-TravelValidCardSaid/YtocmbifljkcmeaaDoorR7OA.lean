/-
  Slices of structs that came in: what they hold. Conditions: as the lemmas state.
-/
import Derived.Test.YtocmbifljkcmeaaDoorBD
import Derived.Deep.Slices
import Derived.Lib.SmallJoins
set_option linter.unusedVariables false
set_option maxRecDepth 100000
namespace Go.Proofs.YtocmbifljkcmeaaDoor
open Go Go.Proofs Go.ChangeShapes Go.WideShapes Go.ChangeAt Go.RowKit Go.Lib Go.Deep

section
variable {H : Type} {enc : TypeId × Value → H} {W : World}
/-- A slice of elements that read as said. -/
theorem open_list {T e : TypeId} {z : Nat} (ht : Tryd.prog.underlying T = some (.slice e)) (hz : Tryd.prog.cellsOf e = z) (hz0 : 0 < z) {α : Type} [Inhabited α] (cells : α → List Value) (Ok : α → DataW H → Prop) (hcl : ∀ a, (cells a).length = z)
    (each : ∀ n cs x, DataW.trod enc Tryd.prog W 0 (fun _ => true) true n e cs = some x → ∃ a, cs = cells a ∧ Ok a x.1) {fuel : Nat} {v : Value} {x : DataW H × List MemPlace} (hf : DataW.trod enc Tryd.prog W 0 (fun _ => true) true fuel T [v] = some x) :
    ∃ (A : Option Addr) (l : List α) (c : Nat), v = .slice A l.length c ∧ l.length ≤ c ∧ c ≤ maxLen ∧
      (l = [] ∨ ∃ b off, A = some ⟨b, off, none⟩ ∧ b < W.heap.size ∧ ∀ (j : Nat) (a : α), l[j]? = some a → ∀ (i : Nat) (u : Value), (cells a)[i]? = some u → W.cell? ⟨b, off + j * z + i, none⟩ = some u) ∧
      ∃ ds rest : List (DataW H), (x.1 = .slice ds rest ∨ (x.1 = .nil ∧ ds = [])) ∧ ds.length = l.length ∧ ∀ (j : Nat) (a : α), l[j]? = some a → ∃ d, ds[j]? = some d ∧ Ok a d := by
  rcases open_slice ht hf with ⟨hcs, rfl⟩ | ⟨a, len, cap, m, n, D, Pl, hcs, _, hl, hm, hmm, rfl, hx⟩
  · simp at hcs
    subst hcs
    exact ⟨none, [], 0, rfl, Nat.le_refl _, by unfold maxLen; omega, .inl rfl, [], [], .inr ⟨rfl, rfl⟩, rfl, fun j a h => by simp at h⟩
  · simp at hcs
    subst hcs
    have hmc : m = cap := by simpa using hmm
    rw [hz] at hx
    obtain ⟨F, hF⟩ := choose_lt (α := α) (p := fun i y => W.cells? 0 (a.add (i * z)) z = some (cells y) ∧ Ok y (D i)) (n := m) (fun i hi => by
      obtain ⟨cs', h1, h2⟩ := hx i hi
      obtain ⟨y, rfl, h3⟩ := each _ _ _ h2
      exact ⟨y, h1, h3⟩)
    refine ⟨some a, (List.range len).map F, cap, by simp, by simpa using hl, hm, ?_, (List.range len).map D, _, .inl rfl, by simp, fun j y hj => ?_⟩
    · rcases Nat.eq_zero_or_pos len with h0 | h0
      · subst h0; exact .inl rfl
      · right
        have hc : ∀ i, i < m → ∀ k, k < z → W.cell? ((a.add (i * z)).add k) = (cells (F i))[k]? := fun i hi k hk => (World.cells?_some (hF i hi).1).2.2 k hk
        have h00 := hc 0 (by omega) 0 hz0
        rw [List.getElem?_eq_getElem (by rw [hcl]; exact hz0)] at h00
        obtain ⟨b, off, spot⟩ := a
        have hspot : spot = none := by simpa [Addr.add] using World.cell?_spot h00
        subst hspot
        have hadd : ∀ i k : Nat, ((⟨b, off, none⟩ : Addr).add i).add k = ⟨b, off + i + k, none⟩ := fun i k => by rw [Go.WideShapes.add_plain, Go.WideShapes.add_plain]
        rw [hadd] at h00
        refine ⟨b, off, rfl, World.block_lt_of_cell? W _ h00, fun j y hj i u hu => ?_⟩
        rw [List.getElem?_map] at hj
        obtain ⟨j', hj', rfl⟩ := Option.map_eq_some_iff.1 hj
        have hjl : j < len := by
          have := (List.getElem?_eq_some_iff.1 hj').1
          simpa using this
        rw [List.getElem?_range hjl] at hj'
        obtain rfl := Option.some.inj hj'
        have hi : i < z := by
          have := (List.getElem?_eq_some_iff.1 hu).1
          rw [hcl] at this
          exact this
        have := hc j (by omega) i hi
        rw [hadd] at this
        rw [this]
        exact hu
    · rw [List.getElem?_map] at hj
      obtain ⟨j', hj', rfl⟩ := Option.map_eq_some_iff.1 hj
      have hjl : j < len := by
        have := (List.getElem?_eq_some_iff.1 hj').1
        simpa using this
      rw [List.getElem?_range hjl] at hj'
      obtain rfl := Option.some.inj hj'
      exact ⟨D j, by rw [List.getElem?_map, List.getElem?_range hjl]; rfl, (hF j (by omega)).2⟩
end
end Go.Proofs.YtocmbifljkcmeaaDoor
