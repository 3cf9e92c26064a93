/-
  Small general facts and definitions, taken out of G1. No program.
-/
import Derived.Test.YtmmphjpakoimcaaDoorBs
import Derived.Deep.RegionLaw
import Derived.Deep.RegionHeld3
import Derived.Handy
set_option linter.unusedVariables false
namespace Go.Proofs.YtmmphjpakoimcaaDoor
open Go Go.Proofs Go.RowKit Go.Lib

/-- A call that returns a value and turns nothing that was there. -/
def Says (v : Value) (w : World) (e : Ending) (w' : World) : Prop := e = .returned v ∧ Below w.heap.size w w'
/-- Four numbers lie in a block. -/
structure Box4 (w : World) (B : Nat) (a b c d : Int) : Prop where
  c0 : w.cell? ⟨B, 0, none⟩ = some (.int .i64 a)
  c1 : w.cell? ⟨B, 1, none⟩ = some (.int .i64 b)
  c2 : w.cell? ⟨B, 2, none⟩ = some (.int .i64 c)
  c3 : w.cell? ⟨B, 3, none⟩ = some (.int .i64 d)
  lt : B < w.heap.size
theorem Box4.next {w w' : World} {B N : Nat} {a b c d : Int} (h : Box4 w B a b c d) (k : Below N w w') (hN : B < N) : Box4 w' B a b c d := by
  have kc : ∀ o : Nat, w'.cell? ⟨B, o, none⟩ = w.cell? ⟨B, o, none⟩ := fun o => k.cell (p := ⟨B, o, none⟩) hN
  exact ⟨(kc 0).trans h.c0, (kc 1).trans h.c1, (kc 2).trans h.c2, (kc 3).trans h.c3, Nat.lt_of_lt_of_le h.lt k.size⟩
theorem Box4.new (w : World) (a b c d : Int) (t : TypeId) : Box4 (w.alloc (.cells #[.int .i64 a, .int .i64 b, .int .i64 c, .int .i64 d] t)) w.heap.size a b c d := by
  have e := heap_alloc_new w (.cells #[.int .i64 a, .int .i64 b, .int .i64 c, .int .i64 d] t)
  refine ⟨?_, ?_, ?_, ?_, by simp⟩
  all_goals (rw [Lib.cell_of_heap e]; rfl)
/-- One box, of a call that began in w0. -/
structure K1 (w0 : World) (a b c d : Int) (w : World) : Prop where
  x : Box4 w w0.heap.size a b c d
  b : Below w0.heap.size w0 w
theorem K1.next {w0 w w' : World} {a b c d : Int} (h : K1 w0 a b c d w) (k : Below w.heap.size w w') : K1 w0 a b c d w' := ⟨h.x.next k h.x.lt, h.b.trans (k.mono h.b.size)⟩
theorem row_drawn {w : World} {B e z n : Nat} {v : Value} {xs : List Value} (h : w.ownsRow B e z v n xs) (q : Nat) : (w.drewN q).ownsRow B e z v n xs :=
  (Rolled.drawn w.heap.size w q).row h (fun e => by have := (h.lt _ e).2; omega)


end Go.Proofs.YtmmphjpakoimcaaDoor
