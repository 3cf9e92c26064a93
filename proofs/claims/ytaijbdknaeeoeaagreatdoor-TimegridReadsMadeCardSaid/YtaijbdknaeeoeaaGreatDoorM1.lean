/-
  Made grids and times: Grid, Time, One, OddGrid, OddTime of timetablemade.Dice. Conditions: the dice lie in memory; the grid is as made.
-/
import Derived.Test.YtaijbdknaeeoeaaGreatDoorSet
import Derived.Test.YtaijbdknaeeoeaaGreatDoorG1
import Derived.Deep.RegionHeld3
set_option linter.unusedVariables false
namespace Go.Proofs.YtaijbdknaeeoeaaGreatDoor
open Go Go.Proofs Go.RowKit Go.Lib

/-- Four numbers lie in a block that may be written. -/
def Cells4 (t : TypeId) (w : World) (B : Nat) (a b x d : Int) : Prop := w.heap[B]? = some (.cells #[.int .i64 a, .int .i64 b, .int .i64 x, .int .i64 d] t (0, 0))
section
variable {T : TypeId} {w w' : World} {B : Nat} {a b x d : Int}
theorem Cells4.box (h : Cells4 T w B a b x d) : Box4 w B a b x d := by
  unfold Cells4 at h
  refine ⟨?_, ?_, ?_, ?_, (Array.getElem?_eq_some_iff.1 h).1⟩
  all_goals (rw [Lib.cell_of_heap h]; rfl)
theorem Cells4.free (h : Cells4 T w B a b x d) (j : Nat) : w.frozen? ⟨B, j, none⟩ = false := cells_free h j
theorem Cells4.lt (h : Cells4 T w B a b x d) : B < w.heap.size := (Array.getElem?_eq_some_iff.1 h).1
theorem Cells4.under (h : Cells4 T w B a b x d) (k : Below w.heap.size w w') : Cells4 T w' B a b x d := (k.block _ h.lt).trans h
theorem Cells4.roll {g : Nat} (h : Cells4 T w B a b x d) (k : Rolled g w w') (hg : B ≠ g) : Cells4 T w' B a b x d := (k.block _ hg).trans h
theorem Cells4.other (h : Cells4 T w B a b x d) (R j : Nat) (v : Value) (hR : B ≠ R) : Cells4 T (w.setCell ⟨R, j, none⟩ v) B a b x d := (Below.heap_setCell w ⟨R, j, none⟩ v B (by show B ≠ R; exact hR)).trans h
theorem Cells4.set0 (h : Cells4 T w B a b x d) (v : Int) : Cells4 T (w.setCell ⟨B, 0, none⟩ (.int .i64 v)) B v b x d := by unfold Cells4; rw [heap_setCell_same w B 0 _ _ _ h]; rfl
theorem Cells4.set1 (h : Cells4 T w B a b x d) (v : Int) : Cells4 T (w.setCell ⟨B, 1, none⟩ (.int .i64 v)) B a v x d := by unfold Cells4; rw [heap_setCell_same w B 1 _ _ _ h]; rfl
theorem Cells4.set2 (h : Cells4 T w B a b x d) (v : Int) : Cells4 T (w.setCell ⟨B, 2, none⟩ (.int .i64 v)) B a b v d := by unfold Cells4; rw [heap_setCell_same w B 2 _ _ _ h]; rfl
theorem Cells4.set3 (h : Cells4 T w B a b x d) (v : Int) : Cells4 T (w.setCell ⟨B, 3, none⟩ (.int .i64 v)) B a b x v := by unfold Cells4; rw [heap_setCell_same w B 3 _ _ _ h]; rfl
theorem Cells4.all (h : Cells4 T w B a b x d) (v0 v1 v2 v3 : Int) : Cells4 T ((((w.setCell ⟨B, 0, none⟩ (.int .i64 v0)).setCell ⟨B, 1, none⟩ (.int .i64 v1)).setCell ⟨B, 2, none⟩ (.int .i64 v2)).setCell ⟨B, 3, none⟩ (.int .i64 v3)) B v0 v1 v2 v3 :=
  (((h.set0 v0).set1 v1).set2 v2).set3 v3
end
theorem Cells4.new (w : World) (a b x d : Int) (T : TypeId) : Cells4 T (w.alloc (.cells #[.int .i64 a, .int .i64 b, .int .i64 x, .int .i64 d] T)) w.heap.size a b x d := heap_alloc_new w _
theorem load_grid {w : World} {B : Nat} {a b x d : Int} (h : Cells4 23 w B a b x d) : (loadVar 23 ⟨B, 0, none⟩).run Tryz.prog w = .ok (.agg #[.int .i64 a, .int .i64 b, .int .i64 x, .int .i64 d]) w := by
  obtain ⟨h0, h1, h2, h3, _⟩ := h.box
  simp [loadVar, go_sem, h0, h1, h2, h3]
theorem load_time {w : World} {B : Nat} {a b x d : Int} (h : Cells4 25 w B a b x d) : (loadVar 25 ⟨B, 0, none⟩).run Tryz.prog w = .ok (.agg #[.int .i64 a, .int .i64 b, .int .i64 x, .int .i64 d]) w := by
  obtain ⟨h0, h1, h2, h3, _⟩ := h.box
  simp [loadVar, go_sem, h0, h1, h2, h3]
theorem DE.trans {w0 w1 w2 : World} {g c k k' : Nat} {A : Option Addr} {L : List Int} (h : DE w0 g c A L k w1) (h' : DE w1 g c A L k' w2) : DE w0 g c A L k' w2 := ⟨h'.d, h.p.trans h'.p h.p.size⟩
theorem DE.toBelow {w0 w1 : World} {g c k B : Nat} {A : Option Addr} {L : List Int} (h : DE w0 g c A L k w1) (h1 : B ≤ w0.heap.size) (h2 : B ≤ g) : Below B w0 w1 := h.p.toBelow h1 h2

/-- A grid as it is made. -/
def MadeG (d s b m : Int) : Prop := (1 ≤ d ∧ d ≤ 5) ∧ (2 ≤ s ∧ s ≤ 8) ∧ (480 ≤ b ∧ b ≤ 585) ∧ (30 ≤ m ∧ m ≤ 60)
/-- What a function that makes a struct of four numbers hands back. -/
def FourP (ok : Int → Int → Int → Int → Prop) (g c : Nat) (A : Option Addr) (L : List Int) (w0 : World) (e : Ending) (w' : World) : Prop :=
  ∃ a b x d k', e = .returned (.agg #[.int .i64 a, .int .i64 b, .int .i64 x, .int .i64 d]) ∧ ok a b x d ∧ DE w0 g c A L k' w'
/-- A block of the call's own, and the dice. -/
structure R1 (T : TypeId) (w0 : World) (g c : Nat) (A : Option Addr) (L : List Int) (k : Nat) (w : World) : Prop where
  e : DE w0 g c A L k w
  r : Cells4 T w w0.heap.size 0 0 0 0
  g0 : g < w0.heap.size
theorem R1.roll {T : TypeId} {w0 w w' : World} {g c k k' : Nat} {A : Option Addr} {L : List Int} (h : R1 T w0 g c A L k w) (hd : DiceAt w' g A L c k') (hr : Rolled g w w') : R1 T w0 g c A L k' w' :=
  ⟨h.e.next hd hr, h.r.roll hr (by have := h.g0; omega), h.g0⟩
theorem R1.first {w : World} {g c k : Nat} {A : Option Addr} {L : List Int} (h : DiceAt w g A L c k) (T : TypeId) : R1 T w g c A L k (w.alloc (.cells #[.int .i64 0, .int .i64 0, .int .i64 0, .int .i64 0] T)) :=
  ⟨(DE.first h).alloc _, Cells4.new w 0 0 0 0 T, h.lt⟩
set_option maxHeartbeats 4000000 in
set_option maxRecDepth 100000 in
theorem grid_any (g c k : Nat) (A : Option Addr) (L : List Int) (w : World) (h : DiceAt w g A L c k) : Calls Tryz.prog 14 #[.pointer (some ⟨g, 0, none⟩)] w (FourP MadeG g c A L w) := by
  have HN := hid (fun (W : World) k n hn (h : DiceAt W g A L c k) => next_at g c k A L n hn W h)
  have HR := hid (R1.first h 23)
  clear h
  go_enter Tryz.func14, Tryz.ntmps14
  go_wp2_with fail
  generalize w.alloc (.cells #[.int .i64 0, .int .i64 0, .int .i64 0, .int .i64 0] 23) = w1 at HR ⊢
  refine (HN.out _ _ _ (by omega) HR.out.e.d).mono ?_
  rintro e w2 ⟨rfl, hd, hR⟩
  obtain ⟨r1, hr1⟩ : ∃ r, rollV L k 5 = r := ⟨_, rfl⟩
  have q1 := rollV_range L k 5 (by omega)
  rw [hr1] at q1 ⊢
  have HR2 := hid (HR.out.roll hd hR)
  generalize rollK L k = k1 at HR2
  clear hr1 hd hR HR
  go_wp2_with fail
  refine (HN.out _ _ _ (by omega) HR2.out.e.d).mono ?_
  rintro e w3 ⟨rfl, hd, hR⟩
  obtain ⟨r2, hr2⟩ : ∃ r, rollV L k1 7 = r := ⟨_, rfl⟩
  have q2 := rollV_range L k1 7 (by omega)
  rw [hr2] at q2 ⊢
  have HR3 := hid (HR2.out.roll hd hR)
  generalize rollK L k1 = k2 at HR3
  clear hr2 hd hR HR2
  go_wp2_with fail
  refine (HN.out _ _ _ (by omega) HR3.out.e.d).mono ?_
  rintro e w4 ⟨rfl, hd, hR⟩
  obtain ⟨r3, hr3⟩ : ∃ r, rollV L k2 8 = r := ⟨_, rfl⟩
  have q3 := rollV_range L k2 8 (by omega)
  rw [hr3] at q3 ⊢
  have HR4 := hid (HR3.out.roll hd hR)
  generalize rollK L k2 = k3 at HR4
  clear hr3 hd hR HR3
  have v3 : IntKind.i64.wrap (15 * r3) = 15 * r3 := IntWalk.i64_in _ (by omega)
  have v3' : IntKind.i64.wrap (480 + 15 * r3) = 480 + 15 * r3 := IntWalk.i64_in _ (by clear v3; omega)
  go_wp2_with fail
  refine (HN.out _ _ _ (by omega) HR4.out.e.d).mono ?_
  rintro e w5 ⟨rfl, hd, hR⟩
  obtain ⟨r4, hr4⟩ : ∃ r, rollV L k3 3 = r := ⟨_, rfl⟩
  have q4 := rollV_range L k3 3 (by omega)
  rw [hr4] at q4 ⊢
  have HR5 := hid (HR4.out.roll hd hR)
  generalize rollK L k3 = k4 at HR5
  clear hr4 hd hR HR4
  have v4 : IntKind.i64.wrap (15 * r4) = 15 * r4 := IntWalk.i64_in _ (by clear v3 v3'; omega)
  have v4' : IntKind.i64.wrap (30 + 15 * r4) = 30 + 15 * r4 := IntWalk.i64_in _ (by clear v3 v3' v4; omega)
  obtain ⟨x0, x1, x2, x3, _⟩ := HR5.out.r.box
  have f0 := HR5.out.r.free 0
  have f1 := HR5.out.r.free 1
  have f2 := HR5.out.r.free 2
  have f3 := HR5.out.r.free 3
  have hg := HR5.out.g0
  go_wp2_with fail
  refine bodyPost_ret (v := .agg #[.int .i64 (1 + r1), .int .i64 (2 + r2), .int .i64 (480 + 15 * r3), .int .i64 (30 + 15 * r4)]) (results_c rfl _ _ _ ⟨w.heap.size, 0, none⟩ _ rfl (load_grid (HR5.out.r.all _ _ _ _))) rfl ?_
  exact ⟨_, _, _, _, _, rfl, ⟨by omega, by omega, by clear v3 v3' v4 v4'; omega, by clear v3 v3' v4 v4'; omega⟩, (((HR5.out.e.set _ _ _ (Nat.le_refl _) hg).set _ _ _ (Nat.le_refl _) hg).set _ _ _ (Nat.le_refl _) hg).set _ _ _ (Nat.le_refl _) hg⟩
end Go.Proofs.YtaijbdknaeeoeaaGreatDoor
