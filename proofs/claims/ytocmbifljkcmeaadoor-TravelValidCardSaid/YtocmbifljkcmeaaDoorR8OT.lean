/-
  A travel table that came in: what it holds. Conditions: as the lemma states.
-/
import Derived.Test.YtocmbifljkcmeaaDoorR7OA
import Derived.Test.YtocmbifljkcmeaaDoorR8A
import Derived.Lib.SmallJoins
import Derived.WalkKit
set_option linter.unusedVariables false
set_option maxRecDepth 100000
namespace Go.Proofs.YtocmbifljkcmeaaDoor
open Go Go.Proofs Go.ChangeShapes Go.WideShapes Go.ChangeAt Go.RowKit Go.Lib Go.Deep

theorem cs3t : Tryd.prog.cellsOf 3 = 1 := by kernel_rfl
theorem cs9t : Tryd.prog.cellsOf 9 = 1 := by kernel_rfl
theorem csIntst : Tryd.prog.cellsOf 48 = 1 := by kernel_rfl
instance : Inhabited (List Int × (Option Addr × Nat)) := ⟨([], (none, 0))⟩
section
variable {H : Type} {enc : TypeId × Value → H} {W : World}
theorem open_none {T e : TypeId} (ht : Tryd.prog.underlying T = some (.slice e)) {fuel : Nat} {A : Option Addr} {n c : Nat} {x : DataW H × List MemPlace} (hf : DataW.trod enc Tryd.prog W 0 (fun _ => true) true fuel T [.slice A n c] = some x) : A = none → c = 0 := by
  intro hA
  subst hA
  rcases open_slice ht hf with ⟨hcs, _⟩ | ⟨a, len, cap, m, k, D, Pl, hcs, _⟩
  · injection hcs with hcs _
    injection hcs with _ _ h
  · injection hcs with hcs _
    injection hcs with h _ _
    cases h
/-- A slice of strings. -/
theorem open_strs8 {fuel : Nat} {v : Value} {x : DataW H × List MemPlace} (hf : DataW.trod enc Tryd.prog W 0 (fun _ => true) true fuel 22 [v] = some x) :
    ∃ (A : Option Addr) (l : List Str) (c : Nat), v = .slice A l.length c ∧ l.length ≤ c ∧ c ≤ maxLen ∧ S3.StrsIn W (fun b => b < W.heap.size) A l ∧ (A = none → c = 0) := by
  obtain ⟨A, l, c, hv, h1, h2, hc, _⟩ := open_list (T := 22) (e := 9) Tryd.underlying22 cs9t (by omega) (fun s : Str => [Value.string (ba s)]) (fun _ _ => True) (fun _ => rfl) (fun n cs x h => by
    obtain ⟨s, rfl, _, _⟩ := DataW.trod_string Tryd.underlying9 h
    exact ⟨s.data.toList, rfl, trivial⟩) hf
  rw [hv] at hf
  refine ⟨A, l, c, hv, h1, h2, ?_, open_none Tryd.underlying22 hf⟩
  rcases hc with h | ⟨b, off, hA, hb, hc⟩
  · exact .inl h
  · refine .inr ⟨b, off, hA, hb, fun j s hj => ?_⟩
    have h := hc j s hj 0 _ rfl
    rw [show off + j * 1 + 0 = off + j by omega] at h
    exact h
/-- A slice of ints. -/
theorem open_ints8 {fuel : Nat} {v : Value} {x : DataW H × List MemPlace} (hf : DataW.trod enc Tryd.prog W 0 (fun _ => true) true fuel 48 [v] = some x) :
    ∃ (A : Option Addr) (l : List Int) (c : Nat), v = .slice A l.length c ∧ l.length ≤ c ∧ c ≤ maxLen ∧ NumsIn W (fun b => b < W.heap.size) A l := by
  obtain ⟨A, l, c, hv, h1, h2, hc, _⟩ := open_list (T := 48) (e := 3) Tryd.underlying48 cs3t (by omega) (fun z : Int => [Value.int .i64 z]) (fun _ _ => True) (fun _ => rfl) (fun n cs x h => by
    obtain ⟨z, rfl, _, _⟩ := DataW.trod_int Tryd.underlying3 h
    exact ⟨z, rfl, trivial⟩) hf
  refine ⟨A, l, c, hv, h1, h2, ?_⟩
  rcases hc with h | ⟨b, off, hA, hb, hc⟩
  · exact .inl h
  · refine .inr ⟨b, off, hA, hb, fun j s hj => ?_⟩
    have h := hc j s hj 0 _ rfl
    rw [show off + j * 1 + 0 = off + j by omega] at h
    exact h
/-- A table's rows. -/
theorem open_rows8 {fuel : Nat} {v : Value} {x : DataW H × List MemPlace} (hf : DataW.trod enc Tryd.prog W 0 (fun _ => true) true fuel 23 [v] = some x) :
    ∃ (A : Option Addr) (R : List (List Int)) (c : Nat), v = .slice A R.length c ∧ R.length ≤ c ∧ c ≤ maxLen ∧ TabIn W (fun b => b < W.heap.size) A R := by
  obtain ⟨A, l, c, hv, h1, h2, hc, ds, rest, _, _, hd⟩ := open_list (T := 23) (e := 48) Tryd.underlying23 csIntst (by omega) (fun r : List Int × (Option Addr × Nat) => [Value.slice r.2.1 r.1.length r.2.2]) (fun r (_ : DataW H) => r.1.length ≤ r.2.2 ∧ r.2.2 ≤ maxLen ∧ NumsIn W (fun b => b < W.heap.size) r.2.1 r.1) (fun _ => rfl) (fun n cs x h => by
    have hl : cs.length = 1 := by
      rcases open_slice Tryd.underlying48 h with ⟨rfl, _⟩ | ⟨a, len, cap, m, k, D, Pl, rfl, _⟩ <;> rfl
    match cs, hl with
    | [v0], _ =>
      obtain ⟨A', l', c', rfl, g1, g2, g3⟩ := open_ints8 h
      exact ⟨(l', (A', c')), rfl, g1, g2, g3⟩) hf
  refine ⟨A, l.map (·.1), c, by rw [List.length_map]; exact hv, by rw [List.length_map]; exact h1, h2, ?_⟩
  rcases hc with h | ⟨b, off, hA, hb, hc⟩
  · exact .inl (by rw [h]; rfl)
  · refine .inr ⟨b, off, hA, hb, fun j r hj => ?_⟩
    rw [List.getElem?_map] at hj
    obtain ⟨y, hy, rfl⟩ := Option.map_eq_some_iff.1 hj
    obtain ⟨_, _, g1, g2, g3⟩ := hd j y hy
    have h := hc j y hy 0 _ rfl
    rw [show off + j * 1 + 0 = off + j by omega] at h
    exact ⟨y.2.1, y.2.2, h, g1, by unfold maxLen at g2; omega, g3⟩
/-- A travel table. -/
theorem open_travel {base : Nat} {v : Value} {d : DataW H} {p : List MemPlace} (hv : Value.okWide Tryd.prog W .any base 25 v) (h : DataW.Trod enc Tryd.prog W 0 (fun _ => true) true 25 v d p) :
    ∃ (A S : Option Addr) (l : List Str) (R : List (List Int)) (c d' : Nat), v = .agg #[.slice A l.length c, .slice S R.length d'] ∧ l.length ≤ c ∧ c ≤ 9223372036854775807 ∧ R.length ≤ 9223372036854775807 ∧ TravIn W (fun b => b < W.heap.size) A S (l, R) ∧ (A = none → c = 0) := by
  obtain ⟨v0, v1, y0, y1, n, rfl, rfl, rfl, t0, t1⟩ := Joins.open_agg2 Tryd.underlying25 (by kernel_rfl) (by kernel_rfl) hv h
  obtain ⟨A, l, c, rfl, h1, h2, h3, h4⟩ := open_strs8 t0
  obtain ⟨S, R, d', rfl, g1, g2, g3⟩ := open_rows8 t1
  unfold maxLen at h2 g2
  exact ⟨A, S, l, R, c, d', rfl, h1, by omega, by omega, ⟨h3, g3⟩, h4⟩
end
end Go.Proofs.YtocmbifljkcmeaaDoor
