/-
  What is kept in the statements' dialect, and its end. Conditions: as the lemmas state.
-/
import Derived.Test.YtcpkefjijinhiaaDoorDialP
import Derived.Test.YtcpkefjijinhiaaDoorRField
set_option linter.unusedVariables false
namespace Go.Proofs.YtcpkefjijinhiaaDoor
open Go Go.Proofs Go.RowKit Go.Lib

/-- The dice lie there, and but for them all that was there is as it was. -/
structure DE (w0 : World) (g c : Nat) (A : Option Addr) (L : List Int) (k : Nat) (w : World) : Prop where
  d : DiceAt w g A L c k
  p : Played w0.heap.size g w0 w
theorem DE.alloc {w0 w : World} {g c k : Nat} {A : Option Addr} {L : List Int} (h : DE w0 g c A L k w) (o : Obj) : DE w0 g c A L k (w.alloc o) :=
  ⟨h.d.below (Below.alloc (Below.refl _ _) (Nat.le_refl _) o) h.d.lt, h.p.below (Below.alloc (Below.refl _ _) h.p.size o)⟩
theorem DE.drew {w0 w : World} {g c k : Nat} {A : Option Addr} {L : List Int} (h : DE w0 g c A L k w) : DE w0 g c A L k w.drew :=
  ⟨h.d.drawn 1, h.p.below (Below.refl _ _).drew⟩
theorem DE.set {w0 w : World} {g c k : Nat} {A : Option Addr} {L : List Int} (h : DE w0 g c A L k w) (b o : Nat) (v : Value) (hb : w0.heap.size ≤ b) (hg : g < b) : DE w0 g c A L k (w.setCell ⟨b, o, none⟩ v) :=
  ⟨h.d.below (B := b) ((Below.refl b w).setCell (p := ⟨b, o, none⟩) (Nat.le_refl _) v) hg, h.p.below ((Below.refl _ w).setCell (p := ⟨b, o, none⟩) hb v)⟩
/-- And the result's block is still as it was made. -/
structure DK (w0 : World) (g c : Nat) (A : Option Addr) (L : List Int) (k : Nat) (w : World) : Prop where
  e : DE w0 g c A L k w
  z : w.heap[w0.heap.size]? = some (.cells #[.int .u8 0, .int .u8 0] 23 (0, 0))
theorem DK.alloc {w0 w : World} {g c k : Nat} {A : Option Addr} {L : List Int} (h : DK w0 g c A L k w) (o : Obj) : DK w0 g c A L k (w.alloc o) :=
  ⟨h.e.alloc o, (Below.heap_alloc w o _ (Array.getElem?_eq_some_iff.1 h.z).1).trans h.z⟩
theorem DK.drew {w0 w : World} {g c k : Nat} {A : Option Addr} {L : List Int} (h : DK w0 g c A L k w) : DK w0 g c A L k w.drew := ⟨h.e.drew, h.z⟩
theorem DK.next {w0 w w' : World} {g c k k' : Nat} {A : Option Addr} {L : List Int} (h : DK w0 g c A L k w) (hn : w0.heap.size ≠ g) (hd : DiceAt w' g A L c k') (hr : Rolled g w w') : DK w0 g c A L k' w' :=
  ⟨⟨hd, h.e.p.rolled hr⟩, (hr.block _ hn).trans h.z⟩
theorem DK.c0 {w0 w : World} {g c k : Nat} {A : Option Addr} {L : List Int} (h : DK w0 g c A L k w) : w.cell? ⟨w0.heap.size, 0, none⟩ = some (.int .u8 0) := by rw [Lib.cell_of_heap h.z]; rfl
theorem DK.c1 {w0 w : World} {g c k : Nat} {A : Option Addr} {L : List Int} (h : DK w0 g c A L k w) : w.cell? ⟨w0.heap.size, 1, none⟩ = some (.int .u8 0) := by rw [Lib.cell_of_heap h.z]; rfl
theorem DK.f {w0 w : World} {g c k : Nat} {A : Option Addr} {L : List Int} (h : DK w0 g c A L k w) (j : Nat) : w.frozen? ⟨w0.heap.size, j, none⟩ = false := by simp [World.frozen?, h.z]
theorem Rolled.cells {g : Nat} {w w' : World} (h : Rolled g w w') : ∀ b o, b ≠ g → w'.cell? ⟨b, o, none⟩ = w.cell? ⟨b, o, none⟩ := fun b o hb => World.cell?_of_block (w := w) (h.block b hb)

theorem Rolled.frozen {g : Nat} {w w' : World} (h : Rolled g w w') : ∀ b o, b ≠ g → w'.frozen? ⟨b, o, none⟩ = w.frozen? ⟨b, o, none⟩ := fun b o hb => World.frozen?_of_block (w := w) (h.block b hb)

theorem results_c {fn : Func} {p : Tmp} {A : TypeId} (h : fn.results = #[.cell p A]) (tmps : Array Value) (P : Program) (w : World) (a : Addr) (va : Value)
    (ha : tmps.getD p undef = .pointer (some a)) (hla : (loadVar A a).run P w = .ok va w) : (results fn tmps).run P w = .ok va w := by
  rw [Array.getD_eq_getD_getElem?] at ha
  simp only [results, h]
  simp [ha, hla, asAddr]
theorem load23 {w : World} {k : Nat} {x y : Value} (h : w.heap[k]? = some (.cells #[x, y] 23 (0, 0))) : (loadVar 23 ⟨k, 0, none⟩).run Tryd.prog w = .ok (.agg #[x, y]) w := by
  have h0 : w.cell? ⟨k, 0, none⟩ = some x := by rw [Lib.cell_of_heap h]; rfl
  have h1 : w.cell? ⟨k, 1, none⟩ = some y := by rw [Lib.cell_of_heap h]; rfl
  simp [loadVar, go_sem, h0, h1]
/-- At the end: the dice, and the result's block. -/
structure DF (w0 : World) (D Q : UInt8) (g c : Nat) (A : Option Addr) (L : List Int) (k : Nat) (w : World) : Prop where
  e : DE w0 g c A L k w
  z : w.heap[w0.heap.size]? = some (.cells #[.int .u8 D.toNat, .int .u8 Q.toNat] 23 (0, 0))
theorem DF.mk' {w0 w : World} {D Q : UInt8} {g c k : Nat} {A : Option Addr} {L : List Int} (h : DK w0 g c A L k w) (hg : g < w0.heap.size) :
    DF w0 D Q g c A L k ((w.setCell ⟨w0.heap.size, 0, none⟩ (.int .u8 D.toNat)).setCell ⟨w0.heap.size, 1, none⟩ (.int .u8 Q.toNat)) := by
  refine ⟨(h.e.set _ _ _ (Nat.le_refl _) hg).set _ _ _ (Nat.le_refl _) hg, ?_⟩
  have h1 := heap_setCell_same w w0.heap.size 0 _ _ (.int .u8 (D.toNat : Int)) h.z
  have h2 := heap_setCell_same _ w0.heap.size 1 _ _ (.int .u8 (Q.toNat : Int)) h1
  rw [h2]
  rfl
theorem DF.alloc {w0 w : World} {D Q : UInt8} {g c k : Nat} {A : Option Addr} {L : List Int} (h : DF w0 D Q g c A L k w) (o : Obj) : DF w0 D Q g c A L k (w.alloc o) :=
  ⟨h.e.alloc o, (Below.heap_alloc w o _ (Array.getElem?_eq_some_iff.1 h.z).1).trans h.z⟩
theorem DF.drew {w0 w : World} {D Q : UInt8} {g c k : Nat} {A : Option Addr} {L : List Int} (h : DF w0 D Q g c A L k w) : DF w0 D Q g c A L k w.drew := ⟨h.e.drew, h.z⟩
theorem dial_end {w0 w : World} {D Q : UInt8} {g c k : Nat} {A : Option Addr} {L : List Int} {a : Act} (ha : a.tmps.getD 2 undef = .pointer (some ⟨w0.heap.size, 0, none⟩)) (hd : a.defers = []) (hv : validB D Q = true) (h : DF w0 D Q g c A L k w) :
    bodyPost Tryd.prog Tryd.f16 (DialP g c A L w0) Exit.ret a w :=
  bodyPost_ret (v := dialV D Q) (results_c rfl _ _ _ ⟨w0.heap.size, 0, none⟩ _ ha (load23 h.z)) hd ⟨⟨D, Q, rfl, hv⟩, ⟨k, h.e.d⟩, h.e.p⟩
end Go.Proofs.YtcpkefjijinhiaaDoor
