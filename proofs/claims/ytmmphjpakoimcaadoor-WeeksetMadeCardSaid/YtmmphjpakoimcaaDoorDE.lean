/-
  What is kept while the dice give out numbers, and what a function hands back through a cell. Conditions: as the lemmas state.
-/
import Derived.Test.YtmmphjpakoimcaaDoorInts
import Derived.Test.YtmmphjpakoimcaaDoorNextD
import Derived.Handy
import Derived.Laws.ResultCell
set_option linter.unusedVariables false
namespace Go.Proofs.YtmmphjpakoimcaaDoor
open Go Go.Proofs Go.RowKit Go.Lib

/-- The dice lie there, and but for them all that was there is as it was. -/
structure DE (w0 : World) (g c : Nat) (A : Option Addr) (L : List Int) (k : Nat) (w : World) : Prop where
  d : DiceAt w g A L c k
  p : Played w0.heap.size g w0 w
section
variable {w0 w w' : World} {g c k k' : Nat} {A : Option Addr} {L : List Int}
theorem DE.first (h : DiceAt w g A L c k) : DE w g c A L k w := ⟨h, Played.refl _ _ _⟩
theorem DE.alloc (h : DE w0 g c A L k w) (o : Obj) : DE w0 g c A L k (w.alloc o) :=
  ⟨h.d.below (Below.alloc (Below.refl _ _) (Nat.le_refl _) o) h.d.lt, h.p.below (Below.alloc (Below.refl _ _) h.p.size o)⟩
theorem DE.drawn (h : DE w0 g c A L k w) (n : Nat) : DE w0 g c A L k (w.drewN n) :=
  ⟨h.d.drawn n, h.p.below (below_drawn (Below.refl _ _) n)⟩
theorem DE.set (h : DE w0 g c A L k w) (b o : Nat) (v : Value) (hb : w0.heap.size ≤ b) (hg : g < b) : DE w0 g c A L k (w.setCell ⟨b, o, none⟩ v) :=
  ⟨h.d.below (B := b) ((Below.refl b w).setCell (p := ⟨b, o, none⟩) (Nat.le_refl _) v) hg, h.p.below ((Below.refl _ w).setCell (p := ⟨b, o, none⟩) hb v)⟩
theorem DE.next (h : DE w0 g c A L k w) (hd : DiceAt w' g A L c k') (hr : Rolled g w w') : DE w0 g c A L k' w' := ⟨hd, h.p.rolled hr⟩
theorem DE.below (h : DE w0 g c A L k w) (hb : Below w0.heap.size w w') (hg : g < w0.heap.size) : DE w0 g c A L k w' := ⟨h.d.below hb hg, h.p.below hb⟩
end
theorem Rolled.cells {g : Nat} {w w' : World} (h : Rolled g w w') : ∀ b o, b ≠ g → w'.cell? ⟨b, o, none⟩ = w.cell? ⟨b, o, none⟩ := fun b o hb => World.cell?_of_block (w := w) (h.block b hb)
theorem Rolled.frozen {g : Nat} {w w' : World} (h : Rolled g w w') : ∀ b o, b ≠ g → w'.frozen? ⟨b, o, none⟩ = w.frozen? ⟨b, o, none⟩ := fun b o hb => World.frozen?_of_block (w := w) (h.block b hb)
theorem results_c {fn : Func} {p : Tmp} {A : TypeId} (h : fn.results = #[.cell p A]) (tmps : Array Value) (P : Program) (w : World) (a : Addr) (va : Value)
    (ha : tmps.getD p undef = .pointer (some a)) (hla : (loadVar A a).run P w = .ok va w) : (results fn tmps).run P w = .ok va w := by
  rw [Array.getD_eq_getD_getElem?] at ha
  simp only [results, h]
  simp [ha, hla, asAddr]
theorem cells_free {w : World} {b : Nat} {cs : Array Value} {t : TypeId} (h : w.heap[b]? = some (.cells cs t (0, 0))) (j : Nat) : w.frozen? ⟨b, j, none⟩ = false := by simp [World.frozen?, h]
theorem IntRow.rolled {B g : Nat} {a w : World} {v : Value} {l : List Int} (hr : IntRow a B v l) (h : Rolled g a w) (hg : g < B) : IntRow w B v l :=
  h.row hr (fun e => by have := World.ownsRow.lt hr g e; omega)
theorem heap_drawn (w : World) : ∀ (q b : Nat), (w.drewN q).heap[b]? = w.heap[b]?
  | 0, _ => rfl
  | q + 1, b => heap_drawn w q b
end Go.Proofs.YtmmphjpakoimcaaDoor
