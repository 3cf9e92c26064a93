/-
  The made texts: Light, Roll, One, Text of package timetablemade. Conditions: the numbers lie in memory as a slice of ints.
-/
import Derived.Test.YtcpkefjijinhiaaDoorNext
import Derived.OwnWalk
import Derived.Lib.BufferWrite
import Derived.Lib.UnsafeStr
import Derived.Laws.IdiomStrings
import Derived.Laws.BytesArg
import Derived.Laws.BytesString
set_option linter.unusedVariables false
namespace Go.Proofs.YtcpkefjijinhiaaDoor
open Go Go.Proofs Go.RowKit Go.Lib

/-- Of the blocks below B only g may differ. -/
structure Played (B g : Nat) (a w : World) : Prop where
  os : w.os = a.os
  tape : w.tape = a.tape
  output : w.output = a.output
  size : a.heap.size ≤ w.heap.size
  block : ∀ k, k < B → k ≠ g → w.heap[k]? = a.heap[k]?
theorem Played.refl (B g : Nat) (w : World) : Played B g w w := ⟨rfl, rfl, rfl, Nat.le_refl _, fun _ _ _ => rfl⟩
theorem Played.trans {B B' g : Nat} {a b c : World} (h : Played B g a b) (k : Played B' g b c) (hB : B ≤ B') : Played B g a c :=
  ⟨k.os.trans h.os, k.tape.trans h.tape, k.output.trans h.output, Nat.le_trans h.size k.size, fun i hi hg => (k.block i (by omega) hg).trans (h.block i hi hg)⟩
theorem Played.below {B g : Nat} {a w w' : World} (h : Played B g a w) (k : Below B w w') : Played B g a w' :=
  ⟨k.os.trans h.os, k.tape.trans h.tape, k.output.trans h.output, Nat.le_trans h.size k.size, fun i hi hg => (k.block i hi).trans (h.block i hi hg)⟩
theorem Played.rolled {B g : Nat} {a w w' : World} (h : Played B g a w) (k : Rolled g w w') : Played B g a w' :=
  ⟨k.os.trans h.os, k.tape.trans h.tape, k.output.trans h.output, by rw [k.size]; exact h.size, fun i hi hg => (k.block i hg).trans (h.block i hi hg)⟩
theorem Played.toBelow {B B' g : Nat} {a w : World} (h : Played B g a w) (h1 : B' ≤ B) (h2 : B' ≤ g) : Below B' a w :=
  ⟨h.os, h.tape, h.output, h.size, fun k hk => h.block k (by omega) (by omega)⟩
theorem Played.row {B g B0 e z n : Nat} {a w : World} (h : Played B g a w) {v : Value} {xs : List Value} (hr : a.ownsRow B0 e z v n xs) (hv : ∀ k, v.ownBlock = some k → k < B ∧ k ≠ g) : w.ownsRow B0 e z v n xs := by
  obtain ⟨h1, h2⟩ := hr
  refine ⟨h1, ?_⟩
  rcases h2 with h2 | ⟨k, cap, cur, hk, hg, hh, r⟩
  · exact .inl h2
  · obtain ⟨h3, h4⟩ := hv k (by rw [hk]; rfl)
    exact .inr ⟨k, cap, cur, hk, hg, (h.block k h3 h4).trans hh, r⟩
theorem DiceAt.below {w w' : World} {g c k B : Nat} {A : Option Addr} {L : List Int} (h : DiceAt w g A L c k) (hb : Below B w w') (hg : g < B) : DiceAt w' g A L c k :=
  h.rolled fun i hi => hb.block i (by omega)
theorem DiceAt.lt {w : World} {g c k : Nat} {A : Option Addr} {L : List Int} (h : DiceAt w g A L c k) : g < w.heap.size := (Array.getElem?_eq_some_iff.1 h.cells).1

/-- A row of bytes as a string. -/
theorem row_string {P : Program} {w : World} {B : Nat} {v : Value} {l : List UInt8} {t : TypeId} (h : w.ownsRow B t 1 v l.length (byteCells l)) (src e dst : TypeId)
    (hs : P.underlying src = some (.slice e)) (he : P.underlying e = some (.int .u8)) (hd : P.underlying dst = some .string) :
    (Go.convert src dst v).run P w = .ok (.string ⟨l.toArray⟩) w := by
  rcases h.2 with ⟨hv, h0⟩ | ⟨k, cap, cur, hv, _⟩
  · have hl : l = [] := List.eq_nil_of_length_eq_zero h0
    rw [hv, run_convert_bytes_string w src dst e none _ _ hs he hd, hl]
    rfl
  · rw [hv]
    refine run_convert_bytes_back w src dst e ⟨k, 0, none⟩ cap l hs he hd (fun j hj => ?_)
    refine World.ownsRow.cells h (g := k) (by rw [hv]; rfl) j _ ?_
    unfold byteCells
    rw [List.getElem?_map, List.getElem?_eq_getElem hj]
    rfl
theorem byteCells_app (a b : List UInt8) : byteCells (a ++ b) = byteCells a ++ byteCells b := by simp [byteCells]
theorem byteCells_len (a : List UInt8) : (byteCells a).length = a.length := by simp [byteCells]
theorem one_new (w : World) (a : Value) (t : TypeId) : ∀ (j : Nat) (u : Value), [a][j]? = some u → (w.alloc (.cells #[a] t)).cell? ((⟨w.heap.size, 0, none⟩ : Addr).add j) = some u := by
  intro j u hj
  match j, hj with
  | 0, hj => simp at hj; subst hj; simp [Addr.add]
  | j + 1, hj => simp at hj
theorem one_one (a : IntKind) (x : Int) : ∀ u ∈ [Value.int a x], u.oneCell' = true := by
  intro u hu
  simp at hu
  subst hu
  rfl
theorem grownBy_of_alloc {wr w2 : World} {o : Obj} {row : Option Nat} (hg : (wr.alloc o).grownBy w2 row) : wr.grownBy w2 row :=
  ⟨hg.os, hg.tape, hg.output, by have := hg.size; simp at this; omega, fun k hk hr => (hg.block k (by simp; omega) hr).trans (Below.heap_alloc wr o k hk)⟩
theorem infoByte : (Tryd.prog.info? 5).map (fun i => (i.zero, i.size, i.bytes)) = some (some (.int .u8 0), 1, 1) := by kernel_rfl

set_option maxHeartbeats 1000000 in
theorem light_any (A : Option Addr) (n c : Nat) (w : World) : Calls Tryd.prog 14 #[.slice A n c] w fun e w' => e = .returned (.bool (decide (n ≤ 400))) ∧ w = w' := by
  have e1 : decide ((n : Int) ≤ 400) = decide (n ≤ 400) := decide_eq_decide.2 (by omega)
  by_cases h : n ≤ 400
  · have hz : (n : Int) ≤ 400 := by omega
    rw [decide_eq_true h]
    go_enter Tryd.func14, Tryd.ntmps14
    go_wp2
    go_ret
    exact ⟨rfl, rfl⟩
  · have hz : ¬ (n : Int) ≤ 400 := by omega
    rw [decide_eq_false h]
    go_enter Tryd.func14, Tryd.ntmps14
    go_wp2
    go_ret
    exact ⟨rfl, rfl⟩

set_option maxHeartbeats 1000000 in
theorem roll_any (A : Option Addr) (L : List Int) (c : Nat) (hL : L.length ≤ 400) (w : World) (h : IntsIn w w.heap.size A L) :
    Calls Tryd.prog 15 #[.slice A L.length c] w fun e w' => e = .returned (.pointer (some ⟨w.heap.size, 0, none⟩)) ∧ DiceAt w' w.heap.size A L c 0 ∧ Below w.heap.size w w' := by
  have HH := hid h
  clear h
  go_enter Tryd.func15, Tryd.ntmps15
  go_wp2
  go_ret
  have hb := (Below.refl _ w).alloc (Nat.le_refl _) (.cells #[.slice A L.length c, .int .i64 0] 60)
  exact ⟨rfl, ⟨heap_alloc_new w _, Nat.zero_le _, HH.out.below hb, hL⟩, hb⟩

set_option maxHeartbeats 1000000 in
theorem one_any (g c k : Nat) (A : Option Addr) (L : List Int) (n : Int) (hn : n ≤ 4294967296) (hn1 : 1 ≤ n) (w : World) (h : DiceAt w g A L c k) :
    Calls Tryd.prog 24 #[.pointer (some ⟨g, 0, none⟩), .int .i64 n] w fun e w' => (∃ r : Bool, e = .returned (.bool r)) ∧ (∃ k', DiceAt w' g A L c k') ∧ Rolled g w w' := by
  have cN := next_any g c k A L n hn w h
  have CN := hid cN
  clear cN h
  go_enter Tryd.func24, Tryd.ntmps24
  go_wp2_with fail
  refine CN.out.mono ?_
  rintro e w1 ⟨⟨r, rfl, hr⟩, hd, hR⟩
  have HD := hid hd
  have HR := hid hR
  clear hd hR hr
  go_wp2
  go_ret
  exact ⟨⟨_, rfl⟩, HD.out, HR.out⟩
end Go.Proofs.YtcpkefjijinhiaaDoor
