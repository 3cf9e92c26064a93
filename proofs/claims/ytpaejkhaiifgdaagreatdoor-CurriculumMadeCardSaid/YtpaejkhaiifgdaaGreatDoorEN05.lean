/-
  The problem of a record by the specification: Whole, At, Found. Conditions: the record's fields lie in memory.
  A curriculum out of a record by the specification. Conditions: the record and the curricula lie in memory; the text of the courses has at most 2097152 bytes.
  A curriculum alone: check of curriculum. Conditions: its courses lie in memory; the variables hold what their text lays.
-/
import Derived.Test.YtpaejkhaiifgdaaGreatDoorGN01
import Derived.Test.YtpaejkhaiifgdaaGreatDoorGN02
import Derived.Test.YtpaejkhaiifgdaaGreatDoorGN03
import Derived.Test.YtpaejkhaiifgdaaGreatDoorGN04
import Derived.Test.YtpaejkhaiifgdaaGreatDoorGN05
import Derived.Test.YtpaejkhaiifgdaaGreatDoorGN06
import Derived.Test.YtpaejkhaiifgdaaGreatDoorGN07
import Derived.Test.YtpaejkhaiifgdaaGreatDoorGN08
import Derived.Test.YtpaejkhaiifgdaaGreatDoorGN09
import Derived.Test.YtpaejkhaiifgdaaGreatDoorGN10
import Derived.Test.YtpaejkhaiifgdaaGreatDoorGN11
import Derived.Test.YtpaejkhaiifgdaaGreatDoorGN12
import Derived.Test.YtpaejkhaiifgdaaGreatDoorGN13
import Derived.Test.YtpaejkhaiifgdaaGreatDoorGN14
import Derived.Test.YtpaejkhaiifgdaaGreatDoorGN15
import Derived.Test.YtpaejkhaiifgdaaGreatDoorGN16
import Derived.Test.YtpaejkhaiifgdaaGreatDoorGN17
import Derived.Test.YtpaejkhaiifgdaaGreatDoorGN18
import Derived.Test.YtpaejkhaiifgdaaGreatDoorEN01
import Derived.Test.YtpaejkhaiifgdaaGreatDoorEN02
import Derived.Test.YtpaejkhaiifgdaaGreatDoorEN03
import Derived.Test.YtpaejkhaiifgdaaGreatDoorEN04
import Derived.Test.YtpaejkhaiifgdaaGreatDoorProg
import Derived.WalkKit
import Derived.WalkSpells
import Derived.WalkLawsBesides
import Derived.Lib.Hide
import Derived.Deep.QuietTactic
import Derived.BigQuiet
import Derived.Laws.Rows
import Derived.OwnWalk
import Derived.Lib.BufferWrite
import Derived.Lib.UnsafeStr
import Derived.Laws.IdiomStrings
import Derived.Laws.BytesArg
import Derived.Laws.BytesString
import Derived.Laws.OwnMore
import Derived.Lib.IndexLaws
import Derived.Lib.ItoaNum
import Derived.Lib.Atoi
import Derived.Lib.Bytealg
import Derived.Laws.ResultCell
import Derived.RegionTactic
import Derived.Handy
import Derived.Deep.DeepCutAuto
import Derived.Deep.CutBlock
import Derived.RangeFuncNested
import Derived.RangeFuncBound
import Derived.RangeFuncCalls
import Derived.RangeFuncLeaves
import Derived.Shelf.Abstract
import Derived.Shelf.RegionOpen
import Derived.OwnWalkIn
import Derived.Lib.SlTrimSet
import Derived.Shelf.Strings.Builder1
import Derived.Shelf.Strings.Builder2
import Derived.Shelf.Strings.OnBuilder
import Derived.Shelf.Strings.Trim
import Derived.Shelf.Small.Utf8
import Derived.Shelf.Small.Strs
import Derived.Shelf.Strings.BuilderF
import Derived.Shelf.Strings.BuilderK
import Derived.Shelf.Strings.Builder2Cap
import Derived.Shelf.Strconv.Atoi
import Derived.Shelf.Strconv.Itoa0
import Derived.Shelf.Strconv.Itoa1
import Derived.Shelf.LaysM
import Derived.Shelf.Strconv.Itoa2
import Derived.Shelf.Strconv.Itoa3
import Derived.Shelf.Strconv.AtoiErrFast
import Derived.Shelf.Strconv.ParseIntEmpty
import Derived.Shelf.Strconv.AtoiFail
import Derived.Shelf.Strconv.Clone
import Derived.Shelf.Strconv.SyntaxError
import Derived.Shelf.LaysC
import Derived.Shelf.Strconv.ToError
import Derived.Shelf.Strconv.AtoiErr
import Derived.Shelf.Strings.Search1
import Derived.Shelf.Strings.Search2
import Derived.Shelf.Strings.Search3
import Derived.Shelf.Strings.Cut
import Derived.Shelf.Strings.Shaped
import Derived.Shelf.Strings.Prefix
import Derived.Shelf.Strings.Runes
import Derived.Shelf.Strings.AsciiSet
import Derived.Shelf.Bits.Mul64
import Derived.Shelf.Strings.Repeat
import Derived.Shelf.Unicode.DecodeSlow
import Derived.Shelf.Strings.BuilderCap
import Derived.Shelf.Slices.Turned
import Derived.Shelf.Strings.SlTrimAscii
import Derived.Lib.AtoiErrMem
import Derived.Lib.Repeat
import Derived.Deep.RegionHeld3
import Derived.Lib.SlicesS
import Derived.TacticsInMore
import Derived.LoopNIn
import Derived.LoopIn
import Derived.Maps.OwnSet
import Derived.Maps.Range
import Derived.Deep.RegionLaw
import Derived.StillTailTactics
import Derived.RangeFuncBox
import Derived.Lib.Join
import Derived.Laws.Concat
set_option linter.unusedVariables false
namespace Go.Proofs.YtpaejkhaiifgdaaGreatDoor
open Go Go.Proofs Go.RowKit Go.Lib

theorem loadP {w : World} {k : Nat} {x y z u : Value} (h : w.heap[k]? = some (.cells #[x, y, z, u] 86 (0, 0))) : (loadVar 86 ⟨k, 0, none⟩).run Tryz.prog w = .ok (.agg #[x, y, z, u]) w := by
  have h0 : w.cell? ⟨k, 0, none⟩ = some x := by rw [Lib.cell_of_heap h]; rfl
  have h1 : w.cell? ⟨k, 1, none⟩ = some y := by rw [Lib.cell_of_heap h]; rfl
  have h2 : w.cell? ⟨k, 2, none⟩ = some z := by rw [Lib.cell_of_heap h]; rfl
  have h3 : w.cell? ⟨k, 3, none⟩ = some u := by rw [Lib.cell_of_heap h]; rfl
  simp [loadVar, go_sem, h0, h1, h2, h3]
/-- A block that holds a problem. -/
structure ProbAt (w0 w : World) (R : Nat) (a b c d : Value) : Prop where
  h : w.heap[R]? = some (.cells #[a, b, c, d] 86 (0, 0))
  b : Below w0.heap.size w0 w
  z : w0.heap.size ≤ R
theorem ProbAt.set {w0 w : World} {R : Nat} {a b c d : Value} (h : ProbAt w0 w R a b c d) (a' b' c' d' : Value) :
    ProbAt w0 ((((w.setCell ⟨R, 0, none⟩ a').setCell ⟨R, 1, none⟩ b').setCell ⟨R, 2, none⟩ c').setCell ⟨R, 3, none⟩ d') R a' b' c' d' := by
  refine ⟨?_, (((h.b.setCell (p := ⟨R, 0, none⟩) h.z a').setCell (p := ⟨R, 1, none⟩) h.z b').setCell (p := ⟨R, 2, none⟩) h.z c').setCell (p := ⟨R, 3, none⟩) h.z d', h.z⟩
  have h0 := heap_setCell_same w R 0 _ _ a' h.h
  have h1 := heap_setCell_same _ R 1 _ _ b' h0
  have h2 := heap_setCell_same _ R 2 _ _ c' h1
  have h3 := heap_setCell_same _ R 3 _ _ d' h2
  rw [h3]
  rfl
theorem ProbAt.free {w0 w : World} {R : Nat} {a b c d : Value} (h : ProbAt w0 w R a b c d) (j : Nat) : w.frozen? ⟨R, j, none⟩ = false := by simp [World.frozen?, h.h]
theorem ProbAt.next {w0 w w' : World} {R : Nat} {a b c d : Value} (h : ProbAt w0 w R a b c d) (k : Below w.heap.size w w') : ProbAt w0 w' R a b c d :=
  ⟨(k.block R (Array.getElem?_eq_some_iff.1 h.h).1).trans h.h, h.b.trans (k.mono h.b.size), h.z⟩
def FoundOut (v : Value) (w : World) (e : Ending) (w' : World) : Prop := e = .returned v ∧ Below w.heap.size w w'
set_option maxHeartbeats 4000000 in
theorem whole_any (line e0 : Int) (A : Option Addr) (F c : Nat) (w : World) :
    Calls Tryz.prog 74 #[.agg #[.int .i64 line, .slice A F c], .int .i64 e0] w (FoundOut (.agg #[.int .i64 0, .int .i64 line, .int .i64 0, .int .i64 e0]) w) := by
  have hb1 := (Below.refl w.heap.size w).alloc (Nat.le_refl _) (.cells #[.int .i64 line, .slice A F c] 27)
  have e1 := heap_alloc_new w (.cells #[.int .i64 line, .slice A F c] 27)
  have hs1 : (w.alloc (.cells #[.int .i64 line, .slice A F c] 27)).heap.size = w.heap.size + 1 := by simp
  obtain ⟨w1, hw1⟩ : ∃ w1, w.alloc (.cells #[.int .i64 line, .slice A F c] 27) = w1 := ⟨_, rfl⟩
  rw [hw1] at hb1 e1 hs1
  have hb2 := (Below.refl w1.heap.size w1).alloc (Nat.le_refl _) (.cells #[.int .i64 0, .int .i64 0, .int .i64 0, .int .i64 0] 86)
  have hp : ProbAt w (w1.alloc (.cells #[.int .i64 0, .int .i64 0, .int .i64 0, .int .i64 0] 86)) w1.heap.size (.int .i64 0) (.int .i64 0) (.int .i64 0) (.int .i64 0) := ⟨heap_alloc_new w1 _, hb1.trans (hb2.mono hb1.size), hb1.size⟩
  have hx0 : (w1.alloc (.cells #[.int .i64 0, .int .i64 0, .int .i64 0, .int .i64 0] 86)).heap[w.heap.size]? = some (.cells #[.int .i64 line, .slice A F c] 27 (0, 0)) := (hb2.block _ (by omega)).trans e1
  obtain ⟨w2, hw2⟩ : ∃ w2, w1.alloc (.cells #[.int .i64 0, .int .i64 0, .int .i64 0, .int .i64 0] 86) = w2 := ⟨_, rfl⟩
  rw [hw2, hs1] at hp
  rw [hw2] at hx0
  have y0 : w2.cell? ⟨w.heap.size, 0, none⟩ = some (.int .i64 line) := by rw [Lib.cell_of_heap hx0]; rfl
  have HP := hid hp
  have f0 := hp.free 0
  have f1 := hp.free 1
  have f2 := hp.free 2
  have f3 := hp.free 3
  have z0 : w2.cell? ⟨w.heap.size + 1, 0, none⟩ = some (.int .i64 0) := by rw [Lib.cell_of_heap hp.h]; rfl
  have z1 : w2.cell? ⟨w.heap.size + 1, 1, none⟩ = some (.int .i64 0) := by rw [Lib.cell_of_heap hp.h]; rfl
  have z2 : w2.cell? ⟨w.heap.size + 1, 2, none⟩ = some (.int .i64 0) := by rw [Lib.cell_of_heap hp.h]; rfl
  have z3 : w2.cell? ⟨w.heap.size + 1, 3, none⟩ = some (.int .i64 0) := by rw [Lib.cell_of_heap hp.h]; rfl
  clear hp hx0 hb1 hb2 e1
  go_enter Tryz.func74, Tryz.ntmps74
  go_upto_region 1 with fail
  (try rw [hw1])
  (try rw [hw2])
  go_wp2
  refine bodyPost_ret (v := .agg #[.int .i64 0, .int .i64 line, .int .i64 0, .int .i64 e0]) (results_c rfl _ _ _ ⟨w.heap.size + 1, 0, none⟩ _ rfl (loadP (HP.out.set _ _ _ _).h)) rfl ⟨rfl, (HP.out.set _ _ _ _).b⟩
set_option maxHeartbeats 4000000 in
theorem at_any (line e0 : Int) (k : Nat) (A : Option Addr) (fs : List FieldD) (c : Nat) (w : World) (h : FieldsIn w (fun b => b < w.heap.size) A fs) (hk : k < fs.length) (hk5 : k < 5) :
    Calls Tryz.prog 75 #[.agg #[.int .i64 line, .slice A fs.length c], .int .i64 (k : Int), .int .i64 e0] w (FoundOut (.agg #[.int .i64 0, .int .i64 line, .int .i64 fs[k].2.1, .int .i64 e0]) w) := by
  have hb1 := (Below.refl w.heap.size w).alloc (Nat.le_refl _) (.cells #[.int .i64 line, .slice A fs.length c] 27)
  have e1 := heap_alloc_new w (.cells #[.int .i64 line, .slice A fs.length c] 27)
  have hs1 : (w.alloc (.cells #[.int .i64 line, .slice A fs.length c] 27)).heap.size = w.heap.size + 1 := by simp
  obtain ⟨w1, hw1⟩ : ∃ w1, w.alloc (.cells #[.int .i64 line, .slice A fs.length c] 27) = w1 := ⟨_, rfl⟩
  rw [hw1] at hb1 e1 hs1
  have hb2 := (Below.refl w1.heap.size w1).alloc (Nat.le_refl _) (.cells #[.int .i64 0, .int .i64 0, .int .i64 0, .int .i64 0] 86)
  have hp : ProbAt w (w1.alloc (.cells #[.int .i64 0, .int .i64 0, .int .i64 0, .int .i64 0] 86)) w1.heap.size (.int .i64 0) (.int .i64 0) (.int .i64 0) (.int .i64 0) := ⟨heap_alloc_new w1 _, hb1.trans (hb2.mono hb1.size), hb1.size⟩
  have hx0 : (w1.alloc (.cells #[.int .i64 0, .int .i64 0, .int .i64 0, .int .i64 0] 86)).heap[w.heap.size]? = some (.cells #[.int .i64 line, .slice A fs.length c] 27 (0, 0)) := (hb2.block _ (by omega)).trans e1
  obtain ⟨w2, hw2⟩ : ∃ w2, w1.alloc (.cells #[.int .i64 0, .int .i64 0, .int .i64 0, .int .i64 0] 86) = w2 := ⟨_, rfl⟩
  rw [hw2, hs1] at hp
  rw [hw2] at hx0
  obtain ⟨b, off, rfl, hb, _, hcol, _⟩ := (h.below hp.b).at_ hk
  obtain ⟨col, hc⟩ : ∃ col, fs[k].2.1 = col := ⟨_, rfl⟩
  rw [hc] at hcol
  obtain ⟨F, hF⟩ : ∃ F, fs.length = F := ⟨_, rfl⟩
  simp only [hF] at hw1 hx0 e1 hk
  rw [hF, hc]
  have y0 : w2.cell? ⟨w.heap.size, 0, none⟩ = some (.int .i64 line) := by rw [Lib.cell_of_heap hx0]; rfl
  have y1 : w2.cell? ⟨w.heap.size, 1, none⟩ = some (.slice (some ⟨b, off, none⟩) F c) := by rw [Lib.cell_of_heap hx0]; rfl
  have HP := hid hp
  have f0 := hp.free 0
  have f1 := hp.free 1
  have f2 := hp.free 2
  have f3 := hp.free 3
  have z0 : w2.cell? ⟨w.heap.size + 1, 0, none⟩ = some (.int .i64 0) := by rw [Lib.cell_of_heap hp.h]; rfl
  have z1 : w2.cell? ⟨w.heap.size + 1, 1, none⟩ = some (.int .i64 0) := by rw [Lib.cell_of_heap hp.h]; rfl
  have z2 : w2.cell? ⟨w.heap.size + 1, 2, none⟩ = some (.int .i64 0) := by rw [Lib.cell_of_heap hp.h]; rfl
  have z3 : w2.cell? ⟨w.heap.size + 1, 3, none⟩ = some (.int .i64 0) := by rw [Lib.cell_of_heap hp.h]; rfl
  have hkz : (k : Int) < (F : Int) := by omega
  have hkd : decide (F ≤ k) = false := decide_eq_false (by omega)
  clear hp hx0 hb1 hb2 e1 h hc hF
  go_enter Tryz.func75, Tryz.ntmps75
  go_upto_region 1 with fail
  (try rw [hw1])
  (try rw [hw2])
  go_region
  all_goals
    go_wp2
    refine bodyPost_ret (v := .agg #[.int .i64 0, .int .i64 line, .int .i64 col, .int .i64 e0]) (results_c rfl _ _ _ ⟨w.heap.size + 1, 0, none⟩ _ rfl (loadP (HP.out.set _ _ _ _).h)) rfl ⟨rfl, (HP.out.set _ _ _ _).b.drew⟩
theorem Found_box (line : Int) (A : Option Addr) (F c : Nat) (w : World) : ∃ w1 w2, w.alloc (.cells #[.int .i64 line, .slice A F c] 27) = w1 ∧ w1.alloc (.cells #[.int .i64 0, .int .i64 0, .int .i64 0, .int .i64 0] 86) = w2 ∧ w1.heap.size = w.heap.size + 1 ∧
    ProbAt w w2 (w.heap.size + 1) (.int .i64 0) (.int .i64 0) (.int .i64 0) (.int .i64 0) ∧ w2.heap[w.heap.size]? = some (.cells #[.int .i64 line, .slice A F c] 27 (0, 0)) := by
  have hb1 := (Below.refl w.heap.size w).alloc (Nat.le_refl _) (.cells #[.int .i64 line, .slice A F c] 27)
  have e1 := heap_alloc_new w (.cells #[.int .i64 line, .slice A F c] 27)
  have hs1 : (w.alloc (.cells #[.int .i64 line, .slice A F c] 27)).heap.size = w.heap.size + 1 := by simp
  generalize w.alloc (.cells #[.int .i64 line, .slice A F c] 27) = w1 at hb1 e1 hs1 ⊢
  have hb2 := (Below.refl w1.heap.size w1).alloc (Nat.le_refl _) (.cells #[.int .i64 0, .int .i64 0, .int .i64 0, .int .i64 0] 86)
  have hn := heap_alloc_new w1 (.cells #[.int .i64 0, .int .i64 0, .int .i64 0, .int .i64 0] 86)
  rw [hs1] at hn
  exact ⟨w1, _, rfl, rfl, hs1, ⟨hn, hb1.trans (hb2.mono hb1.size), by omega⟩, (hb2.block _ (by omega)).trans e1⟩
set_option maxHeartbeats 4000000 in
/-- Found, of the record as a whole. -/
theorem foundW_any (line e0 : Int) (A : Option Addr) (F c : Nat) (w : World) :
    Calls Tryz.prog 59 #[.agg #[.int .i64 line, .slice A F c], .int .i64 (-1), .int .i64 e0] w (FoundOut (.agg #[.int .i64 0, .int .i64 line, .int .i64 0, .int .i64 e0]) w) := by
  obtain ⟨w1, w2, hw1, hw2, hs1, hp, hx0⟩ := Found_box line A F c w
  have y0 : w2.cell? ⟨w.heap.size, 0, none⟩ = some (.int .i64 line) := by rw [Lib.cell_of_heap hx0]; rfl
  have y1 : w2.cell? ⟨w.heap.size, 1, none⟩ = some (.slice A F c) := by rw [Lib.cell_of_heap hx0]; rfl
  have cW := hid (whole_any line e0 A F c w2)
  have HP := hid hp
  clear hp hx0
  go_enter Tryz.func59, Tryz.ntmps59
  go_upto_region 2 with fail
  (try rw [hw1])
  (try rw [hw2])
  go_wp2_with fail
  refine cW.out.mono ?_
  rintro e w3 ⟨rfl, hb3⟩
  have hp3 := HP.out.next hb3
  have HP3 := hid hp3
  have f0 := hp3.free 0
  have f1 := hp3.free 1
  have f2 := hp3.free 2
  have f3 := hp3.free 3
  have z0 : w3.cell? ⟨w.heap.size + 1, 0, none⟩ = some (.int .i64 0) := by rw [Lib.cell_of_heap hp3.h]; rfl
  have z1 : w3.cell? ⟨w.heap.size + 1, 1, none⟩ = some (.int .i64 0) := by rw [Lib.cell_of_heap hp3.h]; rfl
  have z2 : w3.cell? ⟨w.heap.size + 1, 2, none⟩ = some (.int .i64 0) := by rw [Lib.cell_of_heap hp3.h]; rfl
  have z3 : w3.cell? ⟨w.heap.size + 1, 3, none⟩ = some (.int .i64 0) := by rw [Lib.cell_of_heap hp3.h]; rfl
  clear hp3 hb3 cW HP y0 y1
  go_wp2
  refine bodyPost_ret (v := .agg #[.int .i64 0, .int .i64 line, .int .i64 0, .int .i64 e0]) (results_c rfl _ _ _ ⟨w.heap.size + 1, 0, none⟩ _ rfl (loadP (HP3.out.set _ _ _ _).h)) rfl ⟨rfl, (HP3.out.set _ _ _ _).b⟩
set_option maxHeartbeats 4000000 in
/-- Found, of a field. -/
theorem foundA_any (line e0 : Int) (k : Nat) (A : Option Addr) (fs : List FieldD) (c : Nat) (w : World) (h : FieldsIn w (fun b => b < w.heap.size) A fs) (hk : k < fs.length) (hk5 : k < 5) :
    Calls Tryz.prog 59 #[.agg #[.int .i64 line, .slice A fs.length c], .int .i64 (k : Int), .int .i64 e0] w (FoundOut (.agg #[.int .i64 0, .int .i64 line, .int .i64 fs[k].2.1, .int .i64 e0]) w) := by
  obtain ⟨w1, w2, hw1, hw2, hs1, hp, hx0⟩ := Found_box line A fs.length c w
  have hz := hp.b.size
  have cA := at_any line e0 k A fs c w2 ((h.below hp.b).mono (fun b hb => Nat.lt_of_lt_of_le hb hz)) hk hk5
  obtain ⟨col, hc⟩ : ∃ col, fs[k].2.1 = col := ⟨_, rfl⟩
  rw [hc] at cA
  obtain ⟨F, hF⟩ : ∃ F, fs.length = F := ⟨_, rfl⟩
  rw [hF] at hw1 hx0 cA
  rw [hF, hc]
  have y0 : w2.cell? ⟨w.heap.size, 0, none⟩ = some (.int .i64 line) := by rw [Lib.cell_of_heap hx0]; rfl
  have y1 : w2.cell? ⟨w.heap.size, 1, none⟩ = some (.slice A F c) := by rw [Lib.cell_of_heap hx0]; rfl
  have CA := hid cA
  have HP := hid hp
  have hkz : ¬ (k : Int) < 0 := by omega
  clear hp hx0 cA h hc hF hk
  go_enter Tryz.func59, Tryz.ntmps59
  go_upto_region 3 with fail
  (try rw [hw1])
  (try rw [hw2])
  go_wp2_with fail
  refine CA.out.mono ?_
  rintro e w3 ⟨rfl, hb3⟩
  have hp3 := HP.out.next hb3
  have HP3 := hid hp3
  have f0 := hp3.free 0
  have f1 := hp3.free 1
  have f2 := hp3.free 2
  have f3 := hp3.free 3
  have z0 : w3.cell? ⟨w.heap.size + 1, 0, none⟩ = some (.int .i64 0) := by rw [Lib.cell_of_heap hp3.h]; rfl
  have z1 : w3.cell? ⟨w.heap.size + 1, 1, none⟩ = some (.int .i64 0) := by rw [Lib.cell_of_heap hp3.h]; rfl
  have z2 : w3.cell? ⟨w.heap.size + 1, 2, none⟩ = some (.int .i64 0) := by rw [Lib.cell_of_heap hp3.h]; rfl
  have z3 : w3.cell? ⟨w.heap.size + 1, 3, none⟩ = some (.int .i64 0) := by rw [Lib.cell_of_heap hp3.h]; rfl
  clear hp3 hb3 CA HP y0 y1
  go_wp2
  refine bodyPost_ret (v := .agg #[.int .i64 0, .int .i64 line, .int .i64 col, .int .i64 e0]) (results_c rfl _ _ _ ⟨w.heap.size + 1, 0, none⟩ _ rfl (loadP (HP3.out.set _ _ _ _).h)) rfl ⟨rfl, (HP3.out.set _ _ _ _).b⟩
end Go.Proofs.YtpaejkhaiifgdaaGreatDoor

set_option linter.unusedVariables false
namespace Go.Proofs.YtpaejkhaiifgdaaGreatDoor.S11
open Go Go.Proofs Go.RowKit Go.Lib Go.Proofs.YtpaejkhaiifgdaaGreatDoor

theorem entry2 (f0 f1 : FieldD) :
    (S3.validC f0.1 = false → (entryM [f0, f1]).2 = (f0.2.1, 10)) ∧
    (S3.validC f0.1 = true → (coursesM f1.1).2 ≠ 0 → (entryM [f0, f1]).2 = (f1.2.1, (coursesM f1.1).2)) ∧
    (S3.validC f0.1 = true → (coursesM f1.1).2 = 0 → entryM [f0, f1] = ((f0.1, (coursesM f1.1).1), 0, 0)) := by
  refine ⟨?_, ?_, ?_⟩
  all_goals
    intros
    simp_all [entryM, efold, setF, zeroR]
theorem recM_err {st : List CurrD × List ProbD} {line col e : Int} {fs : List FieldD} (h : (entryM fs).2 = (col, e)) (he : e ≠ 0) : recM st (line, fs) = (st.1, st.2 ++ [(line, col, e)]) := by
  unfold recM
  dsimp only
  rw [h, if_pos he]
theorem recM_add {st : List CurrD × List ProbD} {line : Int} {fs : List FieldD} {r : CurrD} (h : entryM fs = (r, 0, 0)) : recM st (line, fs) = if addC st.1 r.1 ≠ 0 then (st.1, st.2 ++ [(line, 0, addC st.1 r.1)]) else (st.1 ++ [r], st.2) := by
  unfold recM
  dsimp only
  rw [h]
  simp
/-- What a record gives, in a state with its curricula and problems. -/
def OneU (rs : List CurrD) (line : Int) (fs : List FieldD) (r : CurrD) (k e0 : Int) : Prop :=
  (e0 ≠ 0 ∧ k = -1 ∧ ∀ ps, recM (rs, ps) (line, fs) = (rs, ps ++ [(line, 0, e0)])) ∨
  (e0 ≠ 0 ∧ (∃ (j : Nat) (hj : j < fs.length), j < 5 ∧ k = (j : Int) ∧ ∀ ps, recM (rs, ps) (line, fs) = (rs, ps ++ [(line, fs[j].2.1, e0)]))) ∨
  (e0 = 0 ∧ ∀ ps, recM (rs, ps) (line, fs) = (rs ++ [r], ps))
/-- What reading a curriculum leaves behind. -/
def CurrOut (l : List CurrD) (line : Int) (fs : List FieldD) (w : World) (e : Ending) (w' : World) : Prop :=
  (∃ (r : CurrD) (q : CurrA) (k e0 : Int), e = .returned (.tuple #[currV r q, .int .i64 k, .int .i64 e0]) ∧ OneU l line fs r k e0 ∧ (e0 = 0 → CurrIn w' (fun i => w.heap.size ≤ i ∧ i < w'.heap.size) r q)) ∧ Below w.heap.size w w'
theorem one_end {w W : World} {a : Act} {P : Ending → World → Prop} {k e0 : Int} {v0 v1 : Value} (hp : a.tmps.getD 4 undef = .pointer (some ⟨w.heap.size + 1, 0, none⟩)) (hk : a.tmps.getD 5 undef = .int .i64 k) (he : a.tmps.getD 6 undef = .int .i64 e0) (hd : a.defers = [])
    (hz : Box2 W (w.heap.size + 1) v0 v1) (hP : P (.returned (.tuple #[.agg #[v0, v1], .int .i64 k, .int .i64 e0])) W) : bodyPost Tryz.prog Tryz.f58 P Exit.ret a W :=
  bodyPost_ret (v := .tuple #[.agg #[v0, v1], .int .i64 k, .int .i64 e0]) (results_ctt rfl _ _ _ ⟨w.heap.size + 1, 0, none⟩ _ _ _ hp hk he (load2 hz.cells)) hd hP
/-- The boxes of the record, the result, the curriculum that is being read. -/
structure OKU (w0 : World) (v : Value) (v0 v1 : Value) (W : World) : Prop where
  x : W.cell? ⟨w0.heap.size, 1, none⟩ = some v
  z : Box2 W (w0.heap.size + 1) (.string ⟨#[]⟩) (.slice none 0 0)
  r : Box2 W (w0.heap.size + 1 + 1) v0 v1
  bw : Below w0.heap.size w0 W
section
variable {w0 W W' : World} {v : Value} {v0 v1 : Value}
theorem OKU.next (h : OKU w0 v v0 v1 W) (k : Below W.heap.size W W') : OKU w0 v v0 v1 W' :=
  ⟨(k.cell (p := ⟨w0.heap.size, 1, none⟩) (by have := h.r.lt; show w0.heap.size < _; omega)).trans h.x, h.z.next k, h.r.next k, h.bw.trans (k.mono h.bw.size)⟩
theorem OKU.put1 (h : OKU w0 v v0 v1 W) (u : Value) : OKU w0 v v0 u (W.setCell ⟨w0.heap.size + 1 + 1, 1, none⟩ u) := by
  have k : Below (w0.heap.size + 1 + 1) W (W.setCell ⟨w0.heap.size + 1 + 1, 1, none⟩ u) := (Below.refl _ W).setCell (p := ⟨w0.heap.size + 1 + 1, 1, none⟩) (Nat.le_refl _) u
  exact ⟨(k.cell (p := ⟨w0.heap.size, 1, none⟩) (by show w0.heap.size < _; omega)).trans h.x, h.z.below k (by omega), Box2.put1 h.r u, h.bw.trans (k.mono (by omega))⟩
theorem OKU.fin (h : OKU w0 v v0 v1 W) (u0 u1 : Value) : Below w0.heap.size w0 ((W.setCell ⟨w0.heap.size + 1, 0, none⟩ u0).setCell ⟨w0.heap.size + 1, 1, none⟩ u1) :=
  (h.bw.setCell (p := ⟨w0.heap.size + 1, 0, none⟩) (by show w0.heap.size ≤ w0.heap.size + 1; omega) u0).setCell (p := ⟨w0.heap.size + 1, 1, none⟩) (by show w0.heap.size ≤ w0.heap.size + 1; omega) u1
end
theorem two_else (W : World) (R k : Nat) (hk : k ≠ R) (u0 u1 : Value) : ((W.setCell ⟨R, 0, none⟩ u0).setCell ⟨R, 1, none⟩ u1).heap[k]? = W.heap[k]? := by
  rw [Below.heap_setCell _ ⟨R, 1, none⟩ _ k hk, Below.heap_setCell _ ⟨R, 0, none⟩ _ k hk]
theorem two_size (W : World) (R : Nat) (u0 u1 : Value) : ((W.setCell ⟨R, 0, none⟩ u0).setCell ⟨R, 1, none⟩ u1).heap.size = W.heap.size := by simp [World.setCell]

set_option maxHeartbeats 16000000 in
set_option maxRecDepth 100000 in
/-- A record with another number of fields. -/
theorem oneW_any (line : Int) (A' : Option Addr) (fs : List FieldD) (c' : Nat) (Ar : Option Addr) (l : List CurrD) (cr : Nat) (w : World) (h5 : fs.length ≠ 2) :
    Calls Tryz.prog 58 #[.agg #[.int .i64 line, .slice A' fs.length c'], .slice Ar l.length cr] w (CurrOut l line fs w) := by
  have hrec : Hid (∀ ps, recM (l, ps) (line, fs) = (l, ps ++ [(line, 0, 9)])) := hid (fun ps => recM_err (by unfold entryM; rw [if_pos h5]) (by decide))
  obtain ⟨F, hF⟩ : ∃ F, fs.length = F := ⟨_, rfl⟩
  rw [hF] at h5 ⊢
  have hn5 : ((F : Int) != 2) = true := by simp; omega
  obtain ⟨L, hL⟩ : ∃ L, l.length = L := ⟨_, rfl⟩
  rw [hL]
  clear hF hL h5
  have hz : Box2 ((w.alloc (.cells #[.int .i64 line, .slice A' F c'] 27)).alloc (.cells #[.string ⟨#[]⟩, .slice none 0 0] 41)) (w.heap.size + 1) (.string ⟨#[]⟩) (.slice none 0 0) := by
    simpa using Box2.new (w.alloc (.cells #[.int .i64 line, .slice A' F c'] 27)) (.string ⟨#[]⟩) (.slice none 0 0)
  have hb2 : Below w.heap.size w ((w.alloc (.cells #[.int .i64 line, .slice A' F c'] 27)).alloc (.cells #[.string ⟨#[]⟩, .slice none 0 0] 41)) := ((Below.refl _ w).alloc (Nat.le_refl _) _).alloc (by simp) _
  have hx2 : ((w.alloc (.cells #[.int .i64 line, .slice A' F c'] 27)).alloc (.cells #[.string ⟨#[]⟩, .slice none 0 0] 41)).cell? ⟨w.heap.size, 1, none⟩ = some (.slice A' F c') := by
    have e1 := heap_alloc_new w (.cells #[.int .i64 line, .slice A' F c'] 27)
    have e2 := (Below.heap_alloc (w.alloc (.cells #[.int .i64 line, .slice A' F c'] 27)) (.cells #[.string ⟨#[]⟩, .slice none 0 0] 41) w.heap.size (by simp)).trans e1
    rw [Lib.cell_of_heap e2]
    rfl
  have HZ := hid hz
  have HB := hid hb2
  clear hb2 hz
  go_enter Tryz.func58, Tryz.ntmps58
  go_upto_region 1 with fail
  generalize ((w.alloc (.cells #[.int .i64 line, .slice A' F c'] 27)).alloc (.cells #[.string ⟨#[]⟩, .slice none 0 0] 41)) = w2 at HZ HB hx2 ⊢
  obtain ⟨z0, z1⟩ := HZ.out.cells
  have f0 := HZ.out.free 0
  have f1 := HZ.out.free 1
  go_wp2
  refine one_end (w := w) rfl rfl rfl rfl (Box2.set HZ.out _ _) ⟨⟨zeroR, (none, 0), -1, 9, rfl, .inl ⟨by decide, rfl, hrec.out⟩, fun h => absurd h (by decide)⟩, ?_⟩
  exact (HB.out.setCell (p := ⟨w.heap.size + 1, 0, none⟩) (by show w.heap.size ≤ w.heap.size + 1; omega) _).setCell (p := ⟨w.heap.size + 1, 1, none⟩) (by show w.heap.size ≤ w.heap.size + 1; omega) _

set_option maxHeartbeats 16000000 in
set_option maxRecDepth 100000 in
theorem one2_any (line : Int) (A' : Option Addr) (x0 x1 : FieldD) (c' : Nat) (Ar : Option Addr) (l : List CurrD) (cr : Nat) (w : World)
    (hf : FieldsIn w (fun k => k < w.heap.size) A' [x0, x1]) (hr : CurrsIn w (fun k => k < w.heap.size) Ar l) (hl : l.length ≤ 16) (hsz : ∀ f ∈ [x0, x1], f.1.length ≤ 2097152) :
    Calls Tryz.prog 58 #[.agg #[.int .i64 line, .slice A' 2 c'], .slice Ar l.length cr] w (CurrOut l line [x0, x1] w) := by
  obtain ⟨q1, q2, q3⟩ := entry2 x0 x1
  have Q1 := hid q1
  have Q2 := hid q2
  have Q3 := hid q3
  obtain ⟨fb, fo, rfl, hfb, hcells⟩ : ∃ fb fo, A' = some ⟨fb, fo, none⟩ ∧ fb < w.heap.size ∧ ∀ (j : Nat) (t : FieldD), [x0, x1][j]? = some t → ∀ (i : Nat) (v : Value), (fieldVs t)[i]? = some v → w.cell? ⟨fb, fo + j * 3 + i, none⟩ = some v := by
    rcases hf with h | ⟨b, off, hA, hP, hc⟩
    · cases h
    · exact ⟨b, off, hA, hP, hc⟩
  obtain ⟨X0, hX0⟩ : ∃ X, ba x0.1 = X := ⟨_, rfl⟩
  obtain ⟨X1, hX1⟩ : ∃ X, ba x1.1 = X := ⟨_, rfl⟩
  have LX0 : Hid (lst X0 = x0.1) := hid (by rw [← hX0]; rfl)
  have LX1 : Hid (lst X1 = x1.1) := hid (by rw [← hX1]; rfl)
  have BX0 : Hid (ba x0.1 = X0) := hid hX0
  have hz1 : X1.size ≤ 2097152 := by rw [← hX1]; exact hsz x1 (by simp)
  have HF : Hid (∀ W, Below w.heap.size w W → W.cell? ⟨fb, fo, none⟩ = some (.string X0) ∧ W.cell? ⟨fb, fo + 3, none⟩ = some (.string X1)) := hid (fun W hb => by
    have k : ∀ o, W.cell? ⟨fb, o, none⟩ = w.cell? ⟨fb, o, none⟩ := fun o => hb.cell (p := ⟨fb, o, none⟩) hfb
    rw [k, k, ← hX0, ← hX1]
    exact ⟨hcells 0 x0 rfl 0 _ rfl, hcells 1 x1 rfl 0 _ rfl⟩)
  have HRI := hid hr
  obtain ⟨LN, hLN⟩ : ∃ L, l.length = L := ⟨_, rfl⟩
  have HLN := hid hLN
  rw [hLN] at hl ⊢
  obtain ⟨w3, hw3⟩ : ∃ w3, (w.alloc (.cells #[.int .i64 line, .slice (some ⟨fb, fo, none⟩) 2 c'] 27)).alloc (.cells #[.string ⟨#[]⟩, .slice none 0 0] 41) = w3 := ⟨_, rfl⟩
  obtain ⟨hx3, hzz3, hb3, hs3⟩ : w3.heap[w.heap.size]? = some (.cells #[.int .i64 line, .slice (some ⟨fb, fo, none⟩) 2 c'] 27 (0, 0)) ∧ Box2 w3 (w.heap.size + 1) (.string ⟨#[]⟩) (.slice none 0 0) ∧ Below w.heap.size w w3 ∧ w3.heap.size = w.heap.size + 1 + 1 := by
    rw [← hw3]
    have hb1 := (Below.refl w.heap.size w).alloc (Nat.le_refl _) (.cells #[.int .i64 line, .slice (some ⟨fb, fo, none⟩) 2 c'] 27)
    have e1 := heap_alloc_new w (.cells #[.int .i64 line, .slice (some ⟨fb, fo, none⟩) 2 c'] 27)
    have hs1 : (w.alloc (.cells #[.int .i64 line, .slice (some ⟨fb, fo, none⟩) 2 c'] 27)).heap.size = w.heap.size + 1 := by simp
    generalize w.alloc (.cells #[.int .i64 line, .slice (some ⟨fb, fo, none⟩) 2 c'] 27) = u1 at hb1 e1 hs1 ⊢
    have g3 := Box2.new u1 (.string ⟨#[]⟩) (.slice none 0 0)
    have hbx := (Below.refl u1.heap.size u1).alloc (Nat.le_refl _) (.cells #[.string ⟨#[]⟩, .slice none 0 0] 41)
    refine ⟨(hbx.block _ (by omega)).trans e1, ?_, hb1.trans (hbx.mono (by omega)), by simp [hs1]⟩
    rw [← hs1]; exact g3
  have hw1 : w3.cell? ⟨w.heap.size, 1, none⟩ = some (.slice (some ⟨fb, fo, none⟩) 2 c') := by rw [Lib.cell_of_heap hx3]; rfl
  obtain ⟨y0, -⟩ := HF.out w3 hb3
  have hbb := (Below.refl w3.heap.size w3).alloc (Nat.le_refl _) (.cells #[.string X0, .slice none 0 0] 41)
  have hrr := Box2.new w3 (.string X0) (.slice none 0 0)
  rw [hs3] at hrr
  have hk4 : OKU w (.slice (some ⟨fb, fo, none⟩) 2 c') (.string X0) (.slice none 0 0) (w3.alloc (.cells #[.string X0, .slice none 0 0] 41)) :=
    ⟨(hbb.cell (p := ⟨w.heap.size, 1, none⟩) (by show w.heap.size < _; omega)).trans hw1, hzz3.next hbb, hrr, hb3.trans (hbb.mono hb3.size)⟩
  have HK4 := hid hk4
  have HS3 := hid hs3
  have HW3 := hid hw3
  have cV0 := fun w => S3.refValid_any X0 w
  rw [show X0.data.toList = x0.1 from LX0.out] at cV0
  obtain ⟨V0, hV0⟩ : ∃ V, S3.validC x0.1 = V := ⟨_, rfl⟩
  rw [hV0] at cV0
  have HV0 := hid hV0
  have CV := hid cV0
  clear q1 q2 q3 hf hcells hX0 hX1 hr hLN hx3 hzz3 hb3 hsz hbb hrr hk4 cV0 hV0
  go_enter Tryz.func58, Tryz.ntmps58
  go_upto_region 1 with fail
  (try rw [hw3])
  have hfb3 : fb < w3.heap.size := by omega
  clear hw3 hs3
  go_wp2_with fail
  (try rw [HS3.out])
  clear hw1 y0
  generalize w3.alloc (.cells #[.string X0, .slice none 0 0] 41) = w4 at HK4 ⊢
  obtain ⟨v0, v1⟩ := HK4.out.r.cells
  go_wp2_with fail
  refine (CV.out w4).mono ?_
  rintro e w' ⟨rfl, rfl⟩
  cases V0 with
  | false =>
    have HEQ : Hid ((entryM [x0, x1]).2 = (x0.2.1, 10)) := hid (Q1.out HV0.out)
    obtain ⟨z0, z1⟩ := HK4.out.z.cells
    have f0 := HK4.out.z.free 0
    have f1 := HK4.out.z.free 1
    go_wp2
    refine one_end (w := w) rfl rfl rfl rfl (Box2.set HK4.out.z _ _) ⟨⟨(x0.1, []), (none, 0), (0 : Nat), 10, by rw [← BX0.out]; rfl, .inr (.inl ⟨by decide, ⟨0, by simp, by omega, rfl, fun ps => recM_err HEQ.out (by decide)⟩⟩), fun h => absurd h (by decide)⟩, HK4.out.fin _ _⟩
  | true =>
  obtain ⟨⟨TL, e4⟩, hT⟩ : ∃ T, S3.listM x1.1 = T := ⟨_, rfl⟩
  have cT := S3.rlist_any X1 hz1 w4
  rw [show S3.lst X1 = x1.1 from LX1.out, hT] at cT
  have hCM : (coursesM x1.1) = if e4 ≠ 0 then ([], e4) else if TL.length = 0 then ([], 16) else if 8 < TL.length then ([], 2) else (TL, 0) := by unfold coursesM; rw [hT]
  have HCM := hid hCM
  obtain ⟨TN, hTN⟩ : ∃ TN, TL.length = TN := ⟨_, rfl⟩
  have HTN := hid hTN
  unfold S3.ListOut at cT
  have CT := hid cT
  obtain ⟨q0, q1⟩ := HF.out _ HK4.out.bw
  have qx := HK4.out.x
  clear cT hT hCM hTN
  go_wp2_with fail
  refine CT.out.mono ?_
  rintro e w5 ⟨⟨v, rfl, hrow⟩, hb5⟩
  obtain ⟨A5, c5, rfl, h51, h52, h53⟩ := S3.StrRow.strsIn hrow
  have HK5 := hid (HK4.out.next hb5)
  have H53 := hid (h53.mono (P' := fun k => w.heap.size + 1 + 1 + 1 ≤ k ∧ k < w5.heap.size) (fun k hk => ⟨by have h1 : w4.heap.size ≤ k := hk.1; have := HK4.out.r.lt; omega, hk.2⟩))
  have H51 := hid (And.intro h51 h52)
  rw [HTN.out] at H51 ⊢
  clear hrow hb5 h53 h51 h52 q0 q1 qx v0 v1
  obtain ⟨p0, p1⟩ := HK5.out.r.cells
  obtain ⟨z0, z1⟩ := HK5.out.z.cells
  have f0 := HK5.out.z.free 0
  have f1 := HK5.out.z.free 1
  by_cases he4 : e4 = 0
  · subst he4
    by_cases hn0 : TN = 0
    · subst hn0
      have HEQ : Hid ((entryM [x0, x1]).2 = (x1.2.1, 16)) := hid (by
        have e : coursesM x1.1 = ([], 16) := by rw [HCM.out, if_neg (by simp), if_pos HTN.out]
        have h := Q2.out HV0.out (by rw [e]; decide)
        rw [e] at h
        exact h)
      go_wp2
      refine one_end (w := w) rfl rfl rfl rfl (Box2.set HK5.out.z _ _) ⟨⟨(x0.1, []), (none, 0), (1 : Nat), 16, by rw [← BX0.out]; rfl, .inr (.inl ⟨by decide, ⟨1, by simp, by omega, rfl, fun ps => recM_err HEQ.out (by decide)⟩⟩), fun h => absurd h (by decide)⟩, HK5.out.fin _ _⟩
    · have hn0b : ((TN : Int) == 0) = false := by rw [beq_eq_false_iff_ne]; omega
      by_cases hn8 : 8 < TN
      · have hn8z : (8 : Int) < (TN : Int) := by omega
        have HEQ : Hid ((entryM [x0, x1]).2 = (x1.2.1, 2)) := hid (by
          have e : coursesM x1.1 = ([], 2) := by rw [HCM.out, if_neg (by simp), if_neg (by rw [HTN.out]; exact hn0), if_pos (by rw [HTN.out]; exact hn8)]
          have h := Q2.out HV0.out (by rw [e]; decide)
          rw [e] at h
          exact h)
        have dk : decide ((8 : Int) < (TN : Int)) = true := decide_eq_true hn8z
        go_wp2
        refine one_end (w := w) rfl rfl rfl rfl (Box2.set HK5.out.z _ _) ⟨⟨(x0.1, []), (none, 0), (1 : Nat), 2, by rw [← BX0.out]; rfl, .inr (.inl ⟨by decide, ⟨1, by simp, by omega, rfl, fun ps => recM_err HEQ.out (by decide)⟩⟩), fun h => absurd h (by decide)⟩, HK5.out.fin _ _⟩
      · have hn8z : ¬ (8 : Int) < (TN : Int) := by omega
        have dk : decide ((8 : Int) < (TN : Int)) = false := decide_eq_false hn8z
        have HEN : Hid (entryM [x0, x1] = ((x0.1, TL), 0, 0)) := hid (by
          have e : coursesM x1.1 = (TL, 0) := by rw [HCM.out, if_neg (by simp), if_neg (by rw [HTN.out]; exact hn0), if_neg (by rw [HTN.out]; exact hn8)]
          have h := Q3.out HV0.out (by rw [e])
          rw [e] at h
          exact h)
        have pf := HK5.out.r.free 1
        have hk7 := HK5.out.put1 (.slice A5 TN c5)
        obtain ⟨W7, hW7⟩ : ∃ W7, w5.setCell ⟨w.heap.size + 1 + 1, 1, none⟩ (.slice A5 TN c5) = W7 := ⟨_, rfl⟩
        have htm : S3.StrsIn W7 (fun k => w.heap.size + 1 + 1 + 1 ≤ k ∧ k < W7.heap.size) A5 TL := by
          rw [← hW7]
          exact (H53.out.kept (fun k hk => Below.heap_setCell _ ⟨w.heap.size + 1 + 1, 1, none⟩ _ k (by show k ≠ w.heap.size + 1 + 1; have := hk.1; omega))).mono (fun k hk => ⟨hk.1, by simpa [World.setCell] using hk.2⟩)
        rw [hW7] at hk7
        have cI := rindex_any Ar l cr X0 W7 ((HRI.out.below hk7.bw).mono (fun k hk => Nat.lt_of_lt_of_le hk hk7.bw.size)) (by rw [HLN.out]; omega)
        rw [show lst X0 = x0.1 from LX0.out, HLN.out] at cI
        have hpos := idxG_pos (codesU l) x0.1
        obtain ⟨J, hJ⟩ : ∃ J, idxG (codesU l) x0.1 0 = J := ⟨_, rfl⟩
        rw [hJ] at cI hpos
        have CI := hid cI
        have HK7 := hid hk7
        have HTM := hid htm
        clear hk7 htm cI hJ z0 z1 f0 f1
        by_cases hm : x0.1 ∈ codesU l
        · have hJ0 : 0 ≤ J := hpos.2 hm
          have hJd : decide (0 ≤ J) = true := decide_eq_true hJ0
          have HREC : Hid (∀ ps, recM (l, ps) (line, [x0, x1]) = (l, ps ++ [(line, 0, 11)])) := hid (fun ps => by
            rw [recM_add HEN.out]
            have ha : addC l x0.1 = 11 := if_pos hm
            dsimp only
            rw [ha]
            rfl)
          clear hpos hm
          go_upto_region 14 with fail
          (try rw [hW7])
          clear p0 p1 pf
          obtain ⟨y0, y1⟩ := HK7.out.r.cells
          obtain ⟨z0, z1⟩ := HK7.out.z.cells
          have f0 := HK7.out.z.free 0
          have f1 := HK7.out.z.free 1
          go_wp2_with fail
          refine CI.out.mono ?_
          rintro e w8 ⟨rfl, rfl⟩
          go_wp2
          refine one_end (w := w) rfl rfl rfl rfl (Box2.set HK7.out.z _ _) ⟨⟨(x0.1, TL), (A5, c5), -1, 11, by rw [← BX0.out, ← HTN.out]; rfl, .inl ⟨by decide, rfl, HREC.out⟩, fun h => absurd h (by decide)⟩, HK7.out.fin _ _⟩
        · have hJ0 : ¬ 0 ≤ J := fun h => hm (hpos.1 h)
          have hJd : decide (0 ≤ J) = false := decide_eq_false hJ0
          by_cases h16 : LN = 16
          · have h16b : ((LN : Int) == 16) = true := by rw [h16]; rfl
            have HREC : Hid (∀ ps, recM (l, ps) (line, [x0, x1]) = (l, ps ++ [(line, 0, 2)])) := hid (fun ps => by
              rw [recM_add HEN.out]
              have ha : addC l x0.1 = 2 := by unfold addC; rw [if_neg hm, HLN.out, if_pos h16]
              dsimp only
              rw [ha]
              rfl)
            clear hpos hm h16
            go_upto_region 14 with fail
            (try rw [hW7])
            clear p0 p1 pf
            obtain ⟨y0, y1⟩ := HK7.out.r.cells
            obtain ⟨z0, z1⟩ := HK7.out.z.cells
            have f0 := HK7.out.z.free 0
            have f1 := HK7.out.z.free 1
            go_wp2_with fail
            refine CI.out.mono ?_
            rintro e w8 ⟨rfl, rfl⟩
            go_wp2
            refine one_end (w := w) rfl rfl rfl rfl (Box2.set HK7.out.z _ _) ⟨⟨(x0.1, TL), (A5, c5), -1, 2, by rw [← BX0.out, ← HTN.out]; rfl, .inl ⟨by decide, rfl, HREC.out⟩, fun h => absurd h (by decide)⟩, HK7.out.fin _ _⟩
          · have h16b : ((LN : Int) == 16) = false := by rw [beq_eq_false_iff_ne]; omega
            have HREC : Hid (∀ ps, recM (l, ps) (line, [x0, x1]) = (l ++ [(x0.1, TL)], ps)) := hid (fun ps => by
              rw [recM_add HEN.out]
              have ha : addC l x0.1 = 0 := by unfold addC; rw [if_neg hm, HLN.out, if_neg h16]
              dsimp only
              rw [ha]
              rfl)
            clear hpos hm h16
            go_upto_region 14 with fail
            (try rw [hW7])
            clear p0 p1 pf
            obtain ⟨y0, y1⟩ := HK7.out.r.cells
            obtain ⟨z0, z1⟩ := HK7.out.z.cells
            have f0 := HK7.out.z.free 0
            have f1 := HK7.out.z.free 1
            go_wp2_with fail
            refine CI.out.mono ?_
            rintro e w8 ⟨rfl, rfl⟩
            go_wp2
            refine one_end (w := w) rfl rfl rfl rfl (Box2.set HK7.out.z _ _) ⟨⟨(x0.1, TL), (A5, c5), 0, 0, by rw [← BX0.out, ← HTN.out]; rfl, .inr (.inr ⟨rfl, HREC.out⟩), fun _ => ?_⟩, HK7.out.fin _ _⟩
            have hel := fun k (hk : k ≠ w.heap.size + 1) => two_else W7 (w.heap.size + 1) k hk (.string X0) (.slice A5 TN c5)
            have hes := two_size W7 (w.heap.size + 1) (.string X0) (.slice A5 TN c5)
            have hcc := H51.out
            rw [← HTN.out] at hcc
            exact ⟨(HTM.out.kept (fun k hk => hel k (by omega))).mono (fun k hk => ⟨by omega, by rw [hes]; exact hk.2⟩), hcc.1, hcc.2⟩
  · have hez : (e4 != 0) = true := by simpa using he4
    have hez2 : (e4 == 0) = false := by simpa using he4
    have HNE := hid he4
    have HEQ : Hid ((entryM [x0, x1]).2 = (x1.2.1, e4)) := hid (by
      have e : coursesM x1.1 = ([], e4) := by rw [HCM.out, if_pos he4]
      have h := Q2.out HV0.out (by rw [e]; exact he4)
      rw [e] at h
      exact h)
    clear he4
    go_wp2
    refine one_end (w := w) rfl rfl rfl rfl (Box2.set HK5.out.z _ _) ⟨⟨(x0.1, []), (none, 0), (1 : Nat), e4, by rw [← BX0.out]; rfl, .inr (.inl ⟨HNE.out, ⟨1, by simp, by omega, rfl, fun ps => recM_err HEQ.out HNE.out⟩⟩), fun h => absurd h HNE.out⟩, HK5.out.fin _ _⟩
theorem one_any (line : Int) (A' : Option Addr) (fs : List FieldD) (c' : Nat) (Ar : Option Addr) (l : List CurrD) (cr : Nat) (w : World)
    (hf : FieldsIn w (fun k => k < w.heap.size) A' fs) (hr : CurrsIn w (fun k => k < w.heap.size) Ar l) (hl : l.length ≤ 16) (hsz : ∀ f ∈ fs, f.1.length ≤ 2097152) :
    Calls Tryz.prog 58 #[.agg #[.int .i64 line, .slice A' fs.length c'], .slice Ar l.length cr] w (CurrOut l line fs w) := by
  by_cases h5 : fs.length = 2
  · match fs, h5 with
    | [x0, x1], _ => exact one2_any line A' x0 x1 c' Ar l cr w hf hr hl hsz
  · exact oneW_any line A' fs c' Ar l cr w h5
end Go.Proofs.YtpaejkhaiifgdaaGreatDoor.S11

set_option linter.unusedVariables false
namespace Go.Proofs.YtpaejkhaiifgdaaGreatDoor.S11
open Go Go.Proofs Go.RowKit Go.Lib Go.Proofs.YtpaejkhaiifgdaaGreatDoor

set_option maxHeartbeats 8000000 in
set_option maxRecDepth 100000 in
theorem ucheck_any (x : CurrD) (q : CurrA) (w : World) (h : CurrIn w (fun b => b < w.heap.size) x q) (hE : S3.Env w) :
    Calls Tryz.prog 43 #[currV x q] w (Says (.int .i64 (currM x)) w) := by
  obtain ⟨code, cs⟩ := x
  obtain ⟨A2, c2⟩ := q
  obtain ⟨ht, ht1, ht2⟩ := h
  dsimp only at ht ht1 ht2
  unfold currV Says
  dsimp only
  have hx0 := Box2.new w (.string (ba code)) (.slice A2 cs.length c2)
  have hb0 := (Below.refl w.heap.size w).alloc (Nat.le_refl _) (.cells #[.string (ba code), .slice A2 cs.length c2] 41)
  have cV1 := fun w => S3.valid_any (ba code) w
  have cJ := hid (fun (w' : World) (hb : Below w.heap.size w w') => S3.cjoin_any A2 cs c2 w' ((ht.below hb).mono (fun k hk => Nat.lt_of_lt_of_le hk hb.size)) ht1 ht2 (hE.below hb))
  obtain ⟨R, hR⟩ : ∃ R, currM (code, cs) = R := ⟨_, rfl⟩
  rw [hR]
  rw [show (ba code).data.toList = code from rfl] at cV1
  unfold currM at hR
  dsimp only at hR
  obtain ⟨V1, hV1⟩ : ∃ V, S3.validC code = V := ⟨_, rfl⟩
  rw [hV1] at cV1 hR
  obtain ⟨X1, hX1⟩ : ∃ X, ba code = X := ⟨_, rfl⟩
  rw [hX1] at hx0 hb0 cV1 ⊢
  have cJ' := cJ.out
  unfold S3.JoinOut at cJ'
  obtain ⟨JT, hJT⟩ : ∃ T, (S3.ba (if S3.checkM cs = 0 then S3.joinM cs else [])) = T := ⟨_, rfl⟩
  obtain ⟨CK, hCK⟩ : ∃ T, S3.checkM cs = T := ⟨_, rfl⟩
  rw [hJT, hCK] at cJ'
  rw [hCK] at hR
  obtain ⟨T1, hT1⟩ : ∃ F, cs.length = F := ⟨_, rfl⟩
  rw [hT1] at hx0 hb0 cJ' hR ⊢
  have CJ := hid cJ'
  clear ht cJ cJ' hV1 hX1 ht1 hT1 hJT hCK hE
  have HX0 := hid hx0
  have HB0 := hid hb0
  clear hx0 hb0
  cases V1 with
  | false =>
    obtain rfl : R = 10 := by rw [← hR]; simp
    clear hR
    go_enter Tryz.func43, Tryz.ntmps43
    go_wp2_with fail
    generalize World.alloc _ _ = wx at HX0 HB0 ⊢
    obtain ⟨x0, x1⟩ := HX0.out.cells
    refine (cV1 _).mono ?_
    rintro e w' ⟨rfl, rfl⟩
    go_wp2
    go_ret
    exact ⟨rfl, HB0.out⟩
  | true =>
  rw [if_neg (by simp)] at hR
  by_cases z1 : T1 = 0
  · subst z1
    obtain rfl : R = 16 := by rw [← hR]; simp
    clear hR
    go_enter Tryz.func43, Tryz.ntmps43
    go_wp2_with fail
    generalize World.alloc _ _ = wx at HX0 HB0 ⊢
    obtain ⟨x0, x1⟩ := HX0.out.cells
    refine (cV1 _).mono ?_
    rintro e w' ⟨rfl, rfl⟩
    go_wp2
    go_ret
    exact ⟨rfl, HB0.out⟩
  have z1i : ¬ (T1 : Int) = 0 := by omega
  have z1b : ((T1 : Int) == 0) = false := by simpa using z1
  rw [if_neg z1] at hR
  by_cases z2 : 8 < T1
  · have z2' : (8 : Int) < (T1 : Int) := by omega
    have z2d : decide ((8 : Int) < (T1 : Int)) = true := decide_eq_true z2'
    obtain rfl : R = 2 := by rw [← hR, if_pos z2]
    clear hR
    go_enter Tryz.func43, Tryz.ntmps43
    go_wp2_with fail
    generalize World.alloc _ _ = wx at HX0 HB0 ⊢
    obtain ⟨x0, x1⟩ := HX0.out.cells
    refine (cV1 _).mono ?_
    rintro e w' ⟨rfl, rfl⟩
    go_wp2
    go_ret
    exact ⟨rfl, HB0.out⟩
  have z2' : ¬ (8 : Int) < (T1 : Int) := by omega
  have z2d : decide ((8 : Int) < (T1 : Int)) = false := decide_eq_false z2'
  rw [if_neg z2] at hR
  subst hR
  clear z2
  go_enter Tryz.func43, Tryz.ntmps43
  go_wp2_with fail
  generalize World.alloc _ _ = wx at HX0 HB0 ⊢
  obtain ⟨x0, x1⟩ := HX0.out.cells
  refine (cV1 _).mono ?_
  rintro e w' ⟨rfl, rfl⟩
  go_wp2_with fail
  refine (CJ.out _ HB0.out).mono ?_
  rintro e w2 ⟨rfl, hb⟩
  have HB := hid (HB0.out.trans (hb.mono HB0.out.size))
  clear hb
  go_wp2
  go_ret
  exact ⟨rfl, HB.out⟩
end Go.Proofs.YtpaejkhaiifgdaaGreatDoor.S11

