/-
  The made numbers: Mod, Light, Roll, Next, One of package timetablemade, for any list of numbers. Conditions: the numbers lie in memory as a slice of ints.
  The made numbers, one after the other: Next and One of timetablemade.Dice. Conditions: the dice lie in memory.
  The made texts: Light, Roll, One, Text of package timetablemade. Conditions: the numbers lie in memory as a slice of ints.
  The next made number, named: Next of timetablemade.Dice gives back a function of the list and the place. Conditions: the dice lie in memory.
-/
import Derived.Test.YtocmbifljkcmeaaDoorProg
import Derived.WalkKit
import Derived.WalkSpells
import Derived.WalkLawsBesides
import Derived.Lib.Hide
import Derived.Deep.QuietTactic
import Derived.BigQuiet
import Derived.Laws.Rows
import Derived.OwnWalk
import Derived.Lib.BufferWrite
import Derived.Lib.UnsafeStr
import Derived.Laws.IdiomStrings
import Derived.Laws.BytesArg
import Derived.Laws.BytesString
set_option linter.unusedVariables false
namespace Go.Proofs.YtocmbifljkcmeaaDoor
open Go Go.Proofs Go.RowKit Go.Lib

/-- The slice at A holds the numbers L, in blocks below B. -/
def IntsIn (w : World) (B : Nat) (A : Option Addr) (L : List Int) : Prop :=
  L = [] ∨ ∃ b off, A = some ⟨b, off, none⟩ ∧ b < B ∧ ∀ (j : Nat) (v : Int), L[j]? = some v → w.cell? ⟨b, off + j, none⟩ = some (.int .i64 v)
theorem IntsIn.below {w w' : World} {B : Nat} {A : Option Addr} {L : List Int} (h : IntsIn w B A L) (hb : Below B w w') : IntsIn w' B A L := by
  rcases h with h | ⟨b, off, hA, hlt, hc⟩
  · exact .inl h
  · exact .inr ⟨b, off, hA, hlt, fun j v hv => (hb.cell (p := ⟨b, off + j, none⟩) hlt).trans (hc j v hv)⟩
theorem IntsIn.mono {w : World} {B B' : Nat} {A : Option Addr} {L : List Int} (h : IntsIn w B A L) (hB : B ≤ B') : IntsIn w B' A L := by
  rcases h with h | ⟨b, off, hA, hlt, hc⟩
  · exact .inl h
  · exact .inr ⟨b, off, hA, by omega, hc⟩

/-- Two worlds that differ in block g alone (and in what has been drawn). -/
structure Rolled (g : Nat) (w w' : World) : Prop where
  os : w'.os = w.os
  tape : w'.tape = w.tape
  output : w'.output = w.output
  size : w'.heap.size = w.heap.size
  block : ∀ k, k ≠ g → w'.heap[k]? = w.heap[k]?
theorem Rolled.refl (g : Nat) (w : World) : Rolled g w w := ⟨rfl, rfl, rfl, rfl, fun _ _ => rfl⟩
theorem Rolled.trans {g : Nat} {a b c : World} (h : Rolled g a b) (k : Rolled g b c) : Rolled g a c :=
  ⟨k.os.trans h.os, k.tape.trans h.tape, k.output.trans h.output, k.size.trans h.size, fun i hi => (k.block i hi).trans (h.block i hi)⟩
theorem Rolled.drawn (g : Nat) (w : World) : ∀ n, Rolled g w (w.drewN n)
  | 0 => Rolled.refl g w
  | n + 1 => ⟨(Rolled.drawn g w n).os, (Rolled.drawn g w n).tape, (Rolled.drawn g w n).output, (Rolled.drawn g w n).size, (Rolled.drawn g w n).block⟩
theorem Rolled.set (g i : Nat) (w : World) (v : Value) : Rolled g w (w.setCell ⟨g, i, none⟩ v) :=
  ⟨by simp [World.setCell], by simp [World.setCell], by simp [World.setCell], by simp [World.setCell], fun k hk => Below.heap_setCell w ⟨g, i, none⟩ v k hk⟩
theorem Rolled.below {g B : Nat} {w w' : World} (h : Rolled g w w') (hB : B ≤ g) : Below B w w' :=
  ⟨h.os, h.tape, h.output, by rw [h.size]; exact Nat.le_refl _, fun k hk => h.block k (by omega)⟩
theorem Rolled.row {g B e z n : Nat} {w w' : World} (h : Rolled g w w') {v : Value} {xs : List Value} (hr : w.ownsRow B e z v n xs) (hv : v.ownBlock ≠ some g) : w'.ownsRow B e z v n xs := by
  obtain ⟨h1, h2⟩ := hr
  refine ⟨h1, ?_⟩
  rcases h2 with h2 | ⟨k, cap, cur, hk, hg, hh, r⟩
  · exact .inl h2
  · refine .inr ⟨k, cap, cur, hk, hg, (h.block k ?_).trans hh, r⟩
    intro e
    subst e
    exact hv (by rw [hk]; rfl)

/-- What Mod returns. -/
def modI (n m : Int) : Int := if m < 1 then 0 else if n.tmod m < 0 then n.tmod m + m else n.tmod m
theorem modI_range (n m : Int) (h : 1 ≤ m) : 0 ≤ modI n m ∧ modI n m < m := by
  unfold modI
  have h1 := Int.tmod_lt_of_pos n (show (0 : Int) < m by omega)
  have h2 := Int.lt_tmod_of_pos n (show (0 : Int) < m by omega)
  rw [if_neg (by omega)]
  split <;> omega
end Go.Proofs.YtocmbifljkcmeaaDoor

set_option linter.unusedVariables false
namespace Go.Proofs.YtocmbifljkcmeaaDoor
open Go Go.Proofs Go.RowKit Go.Lib

end Go.Proofs.YtocmbifljkcmeaaDoor

set_option linter.unusedVariables false
namespace Go.Proofs.YtocmbifljkcmeaaDoor
open Go Go.Proofs Go.RowKit Go.Lib

/-- Of the blocks below B only g may differ. -/
structure Played (B g : Nat) (a w : World) : Prop where
  os : w.os = a.os
  tape : w.tape = a.tape
  output : w.output = a.output
  size : a.heap.size ≤ w.heap.size
  block : ∀ k, k < B → k ≠ g → w.heap[k]? = a.heap[k]?
theorem Played.refl (B g : Nat) (w : World) : Played B g w w := ⟨rfl, rfl, rfl, Nat.le_refl _, fun _ _ _ => rfl⟩
theorem Played.trans {B B' g : Nat} {a b c : World} (h : Played B g a b) (k : Played B' g b c) (hB : B ≤ B') : Played B g a c :=
  ⟨k.os.trans h.os, k.tape.trans h.tape, k.output.trans h.output, Nat.le_trans h.size k.size, fun i hi hg => (k.block i (by omega) hg).trans (h.block i hi hg)⟩
theorem Played.below {B g : Nat} {a w w' : World} (h : Played B g a w) (k : Below B w w') : Played B g a w' :=
  ⟨k.os.trans h.os, k.tape.trans h.tape, k.output.trans h.output, Nat.le_trans h.size k.size, fun i hi hg => (k.block i hi).trans (h.block i hi hg)⟩
theorem Played.rolled {B g : Nat} {a w w' : World} (h : Played B g a w) (k : Rolled g w w') : Played B g a w' :=
  ⟨k.os.trans h.os, k.tape.trans h.tape, k.output.trans h.output, by rw [k.size]; exact h.size, fun i hi hg => (k.block i hg).trans (h.block i hi hg)⟩
theorem Played.toBelow {B B' g : Nat} {a w : World} (h : Played B g a w) (h1 : B' ≤ B) (h2 : B' ≤ g) : Below B' a w :=
  ⟨h.os, h.tape, h.output, h.size, fun k hk => h.block k (by omega) (by omega)⟩
theorem Played.row {B g B0 e z n : Nat} {a w : World} (h : Played B g a w) {v : Value} {xs : List Value} (hr : a.ownsRow B0 e z v n xs) (hv : ∀ k, v.ownBlock = some k → k < B ∧ k ≠ g) : w.ownsRow B0 e z v n xs := by
  obtain ⟨h1, h2⟩ := hr
  refine ⟨h1, ?_⟩
  rcases h2 with h2 | ⟨k, cap, cur, hk, hg, hh, r⟩
  · exact .inl h2
  · obtain ⟨h3, h4⟩ := hv k (by rw [hk]; rfl)
    exact .inr ⟨k, cap, cur, hk, hg, (h.block k h3 h4).trans hh, r⟩
/-- A row of bytes as a string. -/
theorem row_string {P : Program} {w : World} {B : Nat} {v : Value} {l : List UInt8} {t : TypeId} (h : w.ownsRow B t 1 v l.length (byteCells l)) (src e dst : TypeId)
    (hs : P.underlying src = some (.slice e)) (he : P.underlying e = some (.int .u8)) (hd : P.underlying dst = some .string) :
    (Go.convert src dst v).run P w = .ok (.string ⟨l.toArray⟩) w := by
  rcases h.2 with ⟨hv, h0⟩ | ⟨k, cap, cur, hv, _⟩
  · have hl : l = [] := List.eq_nil_of_length_eq_zero h0
    rw [hv, run_convert_bytes_string w src dst e none _ _ hs he hd, hl]
    rfl
  · rw [hv]
    refine run_convert_bytes_back w src dst e ⟨k, 0, none⟩ cap l hs he hd (fun j hj => ?_)
    refine World.ownsRow.cells h (g := k) (by rw [hv]; rfl) j _ ?_
    unfold byteCells
    rw [List.getElem?_map, List.getElem?_eq_getElem hj]
    rfl
theorem byteCells_app (a b : List UInt8) : byteCells (a ++ b) = byteCells a ++ byteCells b := by simp [byteCells]
theorem byteCells_len (a : List UInt8) : (byteCells a).length = a.length := by simp [byteCells]
theorem one_new (w : World) (a : Value) (t : TypeId) : ∀ (j : Nat) (u : Value), [a][j]? = some u → (w.alloc (.cells #[a] t)).cell? ((⟨w.heap.size, 0, none⟩ : Addr).add j) = some u := by
  intro j u hj
  match j, hj with
  | 0, hj => simp at hj; subst hj; simp [Addr.add]
  | j + 1, hj => simp at hj
theorem one_one (a : IntKind) (x : Int) : ∀ u ∈ [Value.int a x], u.oneCell' = true := by
  intro u hu
  simp at hu
  subst hu
  rfl
theorem grownBy_of_alloc {wr w2 : World} {o : Obj} {row : Option Nat} (hg : (wr.alloc o).grownBy w2 row) : wr.grownBy w2 row :=
  ⟨hg.os, hg.tape, hg.output, by have := hg.size; simp at this; omega, fun k hk hr => (hg.block k (by simp; omega) hr).trans (Below.heap_alloc wr o k hk)⟩
theorem infoByte : (Tryd.prog.info? 5).map (fun i => (i.zero, i.size, i.bytes)) = some (some (.int .u8 0), 1, 1) := by kernel_rfl

end Go.Proofs.YtocmbifljkcmeaaDoor

set_option linter.unusedVariables false
namespace Go.Proofs.YtocmbifljkcmeaaDoor
open Go Go.Proofs Go.RowKit Go.Lib

def rollV (L : List Int) (k : Nat) (n : Int) : Int := match L[k]? with | some v => modI v n | none => 0
def rollK (L : List Int) (k : Nat) : Nat := if k < L.length then k + 1 else k
theorem rollV_range (L : List Int) (k : Nat) (n : Int) (h : 1 ≤ n) : 0 ≤ rollV L k n ∧ rollV L k n < n := by
  unfold rollV
  split
  · exact modI_range _ n h
  · omega

end Go.Proofs.YtocmbifljkcmeaaDoor

