/-
  The problem of a record by the specification: Whole, At, Found. Conditions: the record's fields lie in memory.
-/
import Derived.Test.YtocmbifljkcmeaaDoorTN01
import Derived.Test.YtocmbifljkcmeaaDoorTN02
import Derived.Test.YtocmbifljkcmeaaDoorProg
import Derived.WalkKit
import Derived.WalkSpells
import Derived.WalkLawsBesides
import Derived.Lib.Hide
import Derived.Deep.QuietTactic
import Derived.BigQuiet
import Derived.Laws.Rows
import Derived.OwnWalk
import Derived.Lib.BufferWrite
import Derived.Lib.UnsafeStr
import Derived.Laws.IdiomStrings
import Derived.Laws.BytesArg
import Derived.Laws.BytesString
import Derived.Laws.OwnMore
import Derived.Lib.IndexLaws
import Derived.Lib.ItoaNum
import Derived.Lib.Atoi
import Derived.Lib.Bytealg
import Derived.Handy
import Derived.Laws.ResultCell
import Derived.RegionTactic
import Derived.Deep.DeepCutAuto
import Derived.Deep.CutBlock
import Derived.Deep.RegionHeld3
import Derived.Deep.RegionLaw
import Derived.Deep.RegionWith
import Derived.Deep.AppendLies
import Derived.Maps.AppendAt
import Derived.StillTailTactics
import Derived.Shelf.Abstract
set_option linter.unusedVariables false
namespace Go.Proofs.YtocmbifljkcmeaaDoor
open Go Go.Proofs Go.RowKit Go.Lib

theorem loadP {w : World} {k : Nat} {x y z u : Value} (h : w.heap[k]? = some (.cells #[x, y, z, u] 78 (0, 0))) : (loadVar 78 ⟨k, 0, none⟩).run Tryd.prog w = .ok (.agg #[x, y, z, u]) w := by
  have h0 : w.cell? ⟨k, 0, none⟩ = some x := by rw [Lib.cell_of_heap h]; rfl
  have h1 : w.cell? ⟨k, 1, none⟩ = some y := by rw [Lib.cell_of_heap h]; rfl
  have h2 : w.cell? ⟨k, 2, none⟩ = some z := by rw [Lib.cell_of_heap h]; rfl
  have h3 : w.cell? ⟨k, 3, none⟩ = some u := by rw [Lib.cell_of_heap h]; rfl
  simp [loadVar, go_sem, h0, h1, h2, h3]
/-- A block that holds a problem. -/
structure ProbAt (w0 w : World) (R : Nat) (a b c d : Value) : Prop where
  h : w.heap[R]? = some (.cells #[a, b, c, d] 78 (0, 0))
  b : Below w0.heap.size w0 w
  z : w0.heap.size ≤ R
theorem ProbAt.set {w0 w : World} {R : Nat} {a b c d : Value} (h : ProbAt w0 w R a b c d) (a' b' c' d' : Value) :
    ProbAt w0 ((((w.setCell ⟨R, 0, none⟩ a').setCell ⟨R, 1, none⟩ b').setCell ⟨R, 2, none⟩ c').setCell ⟨R, 3, none⟩ d') R a' b' c' d' := by
  refine ⟨?_, (((h.b.setCell (p := ⟨R, 0, none⟩) h.z a').setCell (p := ⟨R, 1, none⟩) h.z b').setCell (p := ⟨R, 2, none⟩) h.z c').setCell (p := ⟨R, 3, none⟩) h.z d', h.z⟩
  have h0 := heap_setCell_same w R 0 _ _ a' h.h
  have h1 := heap_setCell_same _ R 1 _ _ b' h0
  have h2 := heap_setCell_same _ R 2 _ _ c' h1
  have h3 := heap_setCell_same _ R 3 _ _ d' h2
  rw [h3]
  rfl
theorem ProbAt.free {w0 w : World} {R : Nat} {a b c d : Value} (h : ProbAt w0 w R a b c d) (j : Nat) : w.frozen? ⟨R, j, none⟩ = false := by simp [World.frozen?, h.h]
theorem ProbAt.next {w0 w w' : World} {R : Nat} {a b c d : Value} (h : ProbAt w0 w R a b c d) (k : Below w.heap.size w w') : ProbAt w0 w' R a b c d :=
  ⟨(k.block R (Array.getElem?_eq_some_iff.1 h.h).1).trans h.h, h.b.trans (k.mono h.b.size), h.z⟩
def FoundOut (v : Value) (w : World) (e : Ending) (w' : World) : Prop := e = .returned v ∧ Below w.heap.size w w'
set_option maxHeartbeats 4000000 in
theorem whole_any (line e0 : Int) (A : Option Addr) (F c : Nat) (w : World) :
    Calls Tryd.prog 59 #[.agg #[.int .i64 line, .slice A F c], .int .i64 e0] w (FoundOut (.agg #[.int .i64 0, .int .i64 line, .int .i64 0, .int .i64 e0]) w) := by
  have hb1 := (Below.refl w.heap.size w).alloc (Nat.le_refl _) (.cells #[.int .i64 line, .slice A F c] 41)
  have e1 := heap_alloc_new w (.cells #[.int .i64 line, .slice A F c] 41)
  have hs1 : (w.alloc (.cells #[.int .i64 line, .slice A F c] 41)).heap.size = w.heap.size + 1 := by simp
  obtain ⟨w1, hw1⟩ : ∃ w1, w.alloc (.cells #[.int .i64 line, .slice A F c] 41) = w1 := ⟨_, rfl⟩
  rw [hw1] at hb1 e1 hs1
  have hb2 := (Below.refl w1.heap.size w1).alloc (Nat.le_refl _) (.cells #[.int .i64 0, .int .i64 0, .int .i64 0, .int .i64 0] 78)
  have hp : ProbAt w (w1.alloc (.cells #[.int .i64 0, .int .i64 0, .int .i64 0, .int .i64 0] 78)) w1.heap.size (.int .i64 0) (.int .i64 0) (.int .i64 0) (.int .i64 0) := ⟨heap_alloc_new w1 _, hb1.trans (hb2.mono hb1.size), hb1.size⟩
  have hx0 : (w1.alloc (.cells #[.int .i64 0, .int .i64 0, .int .i64 0, .int .i64 0] 78)).heap[w.heap.size]? = some (.cells #[.int .i64 line, .slice A F c] 41 (0, 0)) := (hb2.block _ (by omega)).trans e1
  obtain ⟨w2, hw2⟩ : ∃ w2, w1.alloc (.cells #[.int .i64 0, .int .i64 0, .int .i64 0, .int .i64 0] 78) = w2 := ⟨_, rfl⟩
  rw [hw2, hs1] at hp
  rw [hw2] at hx0
  have y0 : w2.cell? ⟨w.heap.size, 0, none⟩ = some (.int .i64 line) := by rw [Lib.cell_of_heap hx0]; rfl
  have HP := hid hp
  have f0 := hp.free 0
  have f1 := hp.free 1
  have f2 := hp.free 2
  have f3 := hp.free 3
  have z0 : w2.cell? ⟨w.heap.size + 1, 0, none⟩ = some (.int .i64 0) := by rw [Lib.cell_of_heap hp.h]; rfl
  have z1 : w2.cell? ⟨w.heap.size + 1, 1, none⟩ = some (.int .i64 0) := by rw [Lib.cell_of_heap hp.h]; rfl
  have z2 : w2.cell? ⟨w.heap.size + 1, 2, none⟩ = some (.int .i64 0) := by rw [Lib.cell_of_heap hp.h]; rfl
  have z3 : w2.cell? ⟨w.heap.size + 1, 3, none⟩ = some (.int .i64 0) := by rw [Lib.cell_of_heap hp.h]; rfl
  clear hp hx0 hb1 hb2 e1
  go_enter Tryd.func59, Tryd.ntmps59
  go_upto_region 1 with fail
  (try rw [hw1])
  (try rw [hw2])
  go_wp2
  refine bodyPost_ret (v := .agg #[.int .i64 0, .int .i64 line, .int .i64 0, .int .i64 e0]) (results_c rfl _ _ _ ⟨w.heap.size + 1, 0, none⟩ _ rfl (loadP (HP.out.set _ _ _ _).h)) rfl ⟨rfl, (HP.out.set _ _ _ _).b⟩
set_option maxHeartbeats 4000000 in
theorem at_any (line e0 : Int) (k : Nat) (A : Option Addr) (fs : List FieldD) (c : Nat) (w : World) (h : FieldsIn w (fun b => b < w.heap.size) A fs) (hk : k < fs.length) (hk5 : k < 5) :
    Calls Tryd.prog 60 #[.agg #[.int .i64 line, .slice A fs.length c], .int .i64 (k : Int), .int .i64 e0] w (FoundOut (.agg #[.int .i64 0, .int .i64 line, .int .i64 fs[k].2.1, .int .i64 e0]) w) := by
  have hb1 := (Below.refl w.heap.size w).alloc (Nat.le_refl _) (.cells #[.int .i64 line, .slice A fs.length c] 41)
  have e1 := heap_alloc_new w (.cells #[.int .i64 line, .slice A fs.length c] 41)
  have hs1 : (w.alloc (.cells #[.int .i64 line, .slice A fs.length c] 41)).heap.size = w.heap.size + 1 := by simp
  obtain ⟨w1, hw1⟩ : ∃ w1, w.alloc (.cells #[.int .i64 line, .slice A fs.length c] 41) = w1 := ⟨_, rfl⟩
  rw [hw1] at hb1 e1 hs1
  have hb2 := (Below.refl w1.heap.size w1).alloc (Nat.le_refl _) (.cells #[.int .i64 0, .int .i64 0, .int .i64 0, .int .i64 0] 78)
  have hp : ProbAt w (w1.alloc (.cells #[.int .i64 0, .int .i64 0, .int .i64 0, .int .i64 0] 78)) w1.heap.size (.int .i64 0) (.int .i64 0) (.int .i64 0) (.int .i64 0) := ⟨heap_alloc_new w1 _, hb1.trans (hb2.mono hb1.size), hb1.size⟩
  have hx0 : (w1.alloc (.cells #[.int .i64 0, .int .i64 0, .int .i64 0, .int .i64 0] 78)).heap[w.heap.size]? = some (.cells #[.int .i64 line, .slice A fs.length c] 41 (0, 0)) := (hb2.block _ (by omega)).trans e1
  obtain ⟨w2, hw2⟩ : ∃ w2, w1.alloc (.cells #[.int .i64 0, .int .i64 0, .int .i64 0, .int .i64 0] 78) = w2 := ⟨_, rfl⟩
  rw [hw2, hs1] at hp
  rw [hw2] at hx0
  obtain ⟨b, off, rfl, hb, _, hcol, _⟩ := (h.below hp.b).at_ hk
  obtain ⟨col, hc⟩ : ∃ col, fs[k].2.1 = col := ⟨_, rfl⟩
  rw [hc] at hcol
  obtain ⟨F, hF⟩ : ∃ F, fs.length = F := ⟨_, rfl⟩
  simp only [hF] at hw1 hx0 e1 hk
  rw [hF, hc]
  have y0 : w2.cell? ⟨w.heap.size, 0, none⟩ = some (.int .i64 line) := by rw [Lib.cell_of_heap hx0]; rfl
  have y1 : w2.cell? ⟨w.heap.size, 1, none⟩ = some (.slice (some ⟨b, off, none⟩) F c) := by rw [Lib.cell_of_heap hx0]; rfl
  have HP := hid hp
  have f0 := hp.free 0
  have f1 := hp.free 1
  have f2 := hp.free 2
  have f3 := hp.free 3
  have z0 : w2.cell? ⟨w.heap.size + 1, 0, none⟩ = some (.int .i64 0) := by rw [Lib.cell_of_heap hp.h]; rfl
  have z1 : w2.cell? ⟨w.heap.size + 1, 1, none⟩ = some (.int .i64 0) := by rw [Lib.cell_of_heap hp.h]; rfl
  have z2 : w2.cell? ⟨w.heap.size + 1, 2, none⟩ = some (.int .i64 0) := by rw [Lib.cell_of_heap hp.h]; rfl
  have z3 : w2.cell? ⟨w.heap.size + 1, 3, none⟩ = some (.int .i64 0) := by rw [Lib.cell_of_heap hp.h]; rfl
  have hkz : (k : Int) < (F : Int) := by omega
  have hkd : decide (F ≤ k) = false := decide_eq_false (by omega)
  clear hp hx0 hb1 hb2 e1 h hc hF
  go_enter Tryd.func60, Tryd.ntmps60
  go_upto_region 1 with fail
  (try rw [hw1])
  (try rw [hw2])
  go_region
  all_goals
    go_wp2
    refine bodyPost_ret (v := .agg #[.int .i64 0, .int .i64 line, .int .i64 col, .int .i64 e0]) (results_c rfl _ _ _ ⟨w.heap.size + 1, 0, none⟩ _ rfl (loadP (HP.out.set _ _ _ _).h)) rfl ⟨rfl, (HP.out.set _ _ _ _).b.drew⟩
theorem Found_box (line : Int) (A : Option Addr) (F c : Nat) (w : World) : ∃ w1 w2, w.alloc (.cells #[.int .i64 line, .slice A F c] 41) = w1 ∧ w1.alloc (.cells #[.int .i64 0, .int .i64 0, .int .i64 0, .int .i64 0] 78) = w2 ∧ w1.heap.size = w.heap.size + 1 ∧
    ProbAt w w2 (w.heap.size + 1) (.int .i64 0) (.int .i64 0) (.int .i64 0) (.int .i64 0) ∧ w2.heap[w.heap.size]? = some (.cells #[.int .i64 line, .slice A F c] 41 (0, 0)) := by
  have hb1 := (Below.refl w.heap.size w).alloc (Nat.le_refl _) (.cells #[.int .i64 line, .slice A F c] 41)
  have e1 := heap_alloc_new w (.cells #[.int .i64 line, .slice A F c] 41)
  have hs1 : (w.alloc (.cells #[.int .i64 line, .slice A F c] 41)).heap.size = w.heap.size + 1 := by simp
  generalize w.alloc (.cells #[.int .i64 line, .slice A F c] 41) = w1 at hb1 e1 hs1 ⊢
  have hb2 := (Below.refl w1.heap.size w1).alloc (Nat.le_refl _) (.cells #[.int .i64 0, .int .i64 0, .int .i64 0, .int .i64 0] 78)
  have hn := heap_alloc_new w1 (.cells #[.int .i64 0, .int .i64 0, .int .i64 0, .int .i64 0] 78)
  rw [hs1] at hn
  exact ⟨w1, _, rfl, rfl, hs1, ⟨hn, hb1.trans (hb2.mono hb1.size), by omega⟩, (hb2.block _ (by omega)).trans e1⟩
set_option maxHeartbeats 4000000 in
/-- Found, of the record as a whole. -/
theorem foundW_any (line e0 : Int) (A : Option Addr) (F c : Nat) (w : World) :
    Calls Tryd.prog 41 #[.agg #[.int .i64 line, .slice A F c], .int .i64 (-1), .int .i64 e0] w (FoundOut (.agg #[.int .i64 0, .int .i64 line, .int .i64 0, .int .i64 e0]) w) := by
  obtain ⟨w1, w2, hw1, hw2, hs1, hp, hx0⟩ := Found_box line A F c w
  have y0 : w2.cell? ⟨w.heap.size, 0, none⟩ = some (.int .i64 line) := by rw [Lib.cell_of_heap hx0]; rfl
  have y1 : w2.cell? ⟨w.heap.size, 1, none⟩ = some (.slice A F c) := by rw [Lib.cell_of_heap hx0]; rfl
  have cW := hid (whole_any line e0 A F c w2)
  have HP := hid hp
  clear hp hx0
  go_enter Tryd.func41, Tryd.ntmps41
  go_upto_region 2 with fail
  (try rw [hw1])
  (try rw [hw2])
  go_wp2_with fail
  refine cW.out.mono ?_
  rintro e w3 ⟨rfl, hb3⟩
  have hp3 := HP.out.next hb3
  have HP3 := hid hp3
  have f0 := hp3.free 0
  have f1 := hp3.free 1
  have f2 := hp3.free 2
  have f3 := hp3.free 3
  have z0 : w3.cell? ⟨w.heap.size + 1, 0, none⟩ = some (.int .i64 0) := by rw [Lib.cell_of_heap hp3.h]; rfl
  have z1 : w3.cell? ⟨w.heap.size + 1, 1, none⟩ = some (.int .i64 0) := by rw [Lib.cell_of_heap hp3.h]; rfl
  have z2 : w3.cell? ⟨w.heap.size + 1, 2, none⟩ = some (.int .i64 0) := by rw [Lib.cell_of_heap hp3.h]; rfl
  have z3 : w3.cell? ⟨w.heap.size + 1, 3, none⟩ = some (.int .i64 0) := by rw [Lib.cell_of_heap hp3.h]; rfl
  clear hp3 hb3 cW HP y0 y1
  go_wp2
  refine bodyPost_ret (v := .agg #[.int .i64 0, .int .i64 line, .int .i64 0, .int .i64 e0]) (results_c rfl _ _ _ ⟨w.heap.size + 1, 0, none⟩ _ rfl (loadP (HP3.out.set _ _ _ _).h)) rfl ⟨rfl, (HP3.out.set _ _ _ _).b⟩
set_option maxHeartbeats 4000000 in
/-- Found, of a field. -/
theorem foundA_any (line e0 : Int) (k : Nat) (A : Option Addr) (fs : List FieldD) (c : Nat) (w : World) (h : FieldsIn w (fun b => b < w.heap.size) A fs) (hk : k < fs.length) (hk5 : k < 5) :
    Calls Tryd.prog 41 #[.agg #[.int .i64 line, .slice A fs.length c], .int .i64 (k : Int), .int .i64 e0] w (FoundOut (.agg #[.int .i64 0, .int .i64 line, .int .i64 fs[k].2.1, .int .i64 e0]) w) := by
  obtain ⟨w1, w2, hw1, hw2, hs1, hp, hx0⟩ := Found_box line A fs.length c w
  have hz := hp.b.size
  have cA := at_any line e0 k A fs c w2 ((h.below hp.b).mono (fun b hb => Nat.lt_of_lt_of_le hb hz)) hk hk5
  obtain ⟨col, hc⟩ : ∃ col, fs[k].2.1 = col := ⟨_, rfl⟩
  rw [hc] at cA
  obtain ⟨F, hF⟩ : ∃ F, fs.length = F := ⟨_, rfl⟩
  rw [hF] at hw1 hx0 cA
  rw [hF, hc]
  have y0 : w2.cell? ⟨w.heap.size, 0, none⟩ = some (.int .i64 line) := by rw [Lib.cell_of_heap hx0]; rfl
  have y1 : w2.cell? ⟨w.heap.size, 1, none⟩ = some (.slice A F c) := by rw [Lib.cell_of_heap hx0]; rfl
  have CA := hid cA
  have HP := hid hp
  have hkz : ¬ (k : Int) < 0 := by omega
  clear hp hx0 cA h hc hF hk
  go_enter Tryd.func41, Tryd.ntmps41
  go_upto_region 3 with fail
  (try rw [hw1])
  (try rw [hw2])
  go_wp2_with fail
  refine CA.out.mono ?_
  rintro e w3 ⟨rfl, hb3⟩
  have hp3 := HP.out.next hb3
  have HP3 := hid hp3
  have f0 := hp3.free 0
  have f1 := hp3.free 1
  have f2 := hp3.free 2
  have f3 := hp3.free 3
  have z0 : w3.cell? ⟨w.heap.size + 1, 0, none⟩ = some (.int .i64 0) := by rw [Lib.cell_of_heap hp3.h]; rfl
  have z1 : w3.cell? ⟨w.heap.size + 1, 1, none⟩ = some (.int .i64 0) := by rw [Lib.cell_of_heap hp3.h]; rfl
  have z2 : w3.cell? ⟨w.heap.size + 1, 2, none⟩ = some (.int .i64 0) := by rw [Lib.cell_of_heap hp3.h]; rfl
  have z3 : w3.cell? ⟨w.heap.size + 1, 3, none⟩ = some (.int .i64 0) := by rw [Lib.cell_of_heap hp3.h]; rfl
  clear hp3 hb3 CA HP y0 y1
  go_wp2
  refine bodyPost_ret (v := .agg #[.int .i64 0, .int .i64 line, .int .i64 col, .int .i64 e0]) (results_c rfl _ _ _ ⟨w.heap.size + 1, 0, none⟩ _ rfl (loadP (HP3.out.set _ _ _ _).h)) rfl ⟨rfl, (HP3.out.set _ _ _ _).b⟩
end Go.Proofs.YtocmbifljkcmeaaDoor

