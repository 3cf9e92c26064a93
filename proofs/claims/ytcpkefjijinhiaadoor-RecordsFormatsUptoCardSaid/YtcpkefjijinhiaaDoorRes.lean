/-
  What a function hands back that returns structs through cells. No conditions.
-/
import Derived.Test.YtcpkefjijinhiaaDoorPSpec
import Derived.Handy
import Derived.Laws.ResultCell
set_option linter.unusedVariables false
namespace Go.Proofs.YtcpkefjijinhiaaDoor
open Go Go.Proofs Go.RowKit Go.Lib
theorem results_cct {fn : Func} {p q u : Tmp} {A B : TypeId} (h : fn.results = #[.cell p A, .cell q B, .tmp u]) (tmps : Array Value) (P : Program) (w : World) (a b : Addr) (va vb vc : Value)
    (ha : tmps.getD p undef = .pointer (some a)) (hb : tmps.getD q undef = .pointer (some b)) (hc : tmps.getD u undef = vc)
    (hla : (loadVar A a).run P w = .ok va w) (hlb : (loadVar B b).run P w = .ok vb w) : (results fn tmps).run P w = .ok (.tuple #[va, vb, vc]) w := by
  rw [Array.getD_eq_getD_getElem?] at ha hb hc
  simp only [results, h]
  simp [Sem.run_bind, Result.andThen, ha, hb, hc, hla, hlb, asAddr]
theorem results_ct {fn : Func} {p u : Tmp} {A : TypeId} (h : fn.results = #[.cell p A, .tmp u]) (tmps : Array Value) (P : Program) (w : World) (a : Addr) (va vc : Value)
    (ha : tmps.getD p undef = .pointer (some a)) (hc : tmps.getD u undef = vc)
    (hla : (loadVar A a).run P w = .ok va w) : (results fn tmps).run P w = .ok (.tuple #[va, vc]) w := by
  rw [Array.getD_eq_getD_getElem?] at ha hc
  simp only [results, h]
  simp [Result.andThen, ha, hc, hla, asAddr]
theorem load50 {w : World} {k : Nat} {x y z : Value} (h : w.heap[k]? = some (.cells #[x, y, z] 50 (0, 0))) : (loadVar 50 ⟨k, 0, none⟩).run Tryd.prog w = .ok (.agg #[x, y, z]) w := by
  have h0 : w.cell? ⟨k, 0, none⟩ = some x := by rw [Lib.cell_of_heap h]; rfl
  have h1 : w.cell? ⟨k, 1, none⟩ = some y := by rw [Lib.cell_of_heap h]; rfl
  have h2 : w.cell? ⟨k, 2, none⟩ = some z := by rw [Lib.cell_of_heap h]; rfl
  simp [loadVar, go_sem, h0, h1, h2]
theorem load77 {w : World} {k : Nat} {x y z u : Value} (h : w.heap[k]? = some (.cells #[x, y, z, u] 77 (0, 0))) : (loadVar 77 ⟨k, 0, none⟩).run Tryd.prog w = .ok (.agg #[x, y, z, u]) w := by
  have h0 : w.cell? ⟨k, 0, none⟩ = some x := by rw [Lib.cell_of_heap h]; rfl
  have h1 : w.cell? ⟨k, 1, none⟩ = some y := by rw [Lib.cell_of_heap h]; rfl
  have h2 : w.cell? ⟨k, 2, none⟩ = some z := by rw [Lib.cell_of_heap h]; rfl
  have h3 : w.cell? ⟨k, 3, none⟩ = some u := by rw [Lib.cell_of_heap h]; rfl
  simp [loadVar, go_sem, h0, h1, h2, h3]
theorem load48 {w : World} {k : Nat} {x y : Value} (h : w.heap[k]? = some (.cells #[x, y] 48 (0, 0))) : (loadVar 48 ⟨k, 0, none⟩).run Tryd.prog w = .ok (.agg #[x, y]) w := by
  have h0 : w.cell? ⟨k, 0, none⟩ = some x := by rw [Lib.cell_of_heap h]; rfl
  have h1 : w.cell? ⟨k, 1, none⟩ = some y := by rw [Lib.cell_of_heap h]; rfl
  simp [loadVar, go_sem, h0, h1]
end Go.Proofs.YtcpkefjijinhiaaDoor
