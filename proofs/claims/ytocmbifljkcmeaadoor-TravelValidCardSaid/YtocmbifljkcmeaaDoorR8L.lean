/-
  One field of a way: readField of travel. Ways in blocks of their own. Conditions: the library's variable holds an error.
-/
import Derived.Test.YtocmbifljkcmeaaDoorR8J
import Derived.Test.YtocmbifljkcmeaaDoorBD
import Derived.Laws.ResultCell
import Derived.RegionTactic
import Derived.WalkKit
import Derived.Deep.QuietTactic
set_option linter.unusedVariables false
namespace Go.Proofs.YtocmbifljkcmeaaDoor
open Go Go.Proofs Go.RowKit Go.Lib

/-- A block of three cells. -/
structure Box3 (w : World) (B : Nat) (T : TypeId) (v0 v1 v2 : Value) : Prop where
  h : w.heap[B]? = some (.cells #[v0, v1, v2] T (0, 0))
section
variable {w w' : World} {B : Nat} {T : TypeId} {v0 v1 v2 : Value}
theorem Box3.new (w : World) (T : TypeId) (v0 v1 v2 : Value) : Box3 (w.alloc (.cells #[v0, v1, v2] T)) w.heap.size T v0 v1 v2 := ⟨heap_alloc_new w _⟩
theorem Box3.lt (h : Box3 w B T v0 v1 v2) : B < w.heap.size := (Array.getElem?_eq_some_iff.1 h.h).1
theorem Box3.kept (h : Box3 w B T v0 v1 v2) (hk : w'.heap[B]? = w.heap[B]?) : Box3 w' B T v0 v1 v2 := ⟨hk.trans h.h⟩
theorem Box3.next (h : Box3 w B T v0 v1 v2) (k : Below w.heap.size w w') : Box3 w' B T v0 v1 v2 := h.kept (k.block B h.lt)
theorem Box3.c0 (h : Box3 w B T v0 v1 v2) : w.cell? ⟨B, 0, none⟩ = some v0 := by rw [Lib.cell_of_heap h.h]; rfl
theorem Box3.c1 (h : Box3 w B T v0 v1 v2) : w.cell? ⟨B, 1, none⟩ = some v1 := by rw [Lib.cell_of_heap h.h]; rfl
theorem Box3.c2 (h : Box3 w B T v0 v1 v2) : w.cell? ⟨B, 2, none⟩ = some v2 := by rw [Lib.cell_of_heap h.h]; rfl
theorem Box3.free (h : Box3 w B T v0 v1 v2) (j : Nat) : w.frozen? ⟨B, j, none⟩ = false := by simp [World.frozen?, h.h]
theorem Box3.put0 (h : Box3 w B T v0 v1 v2) (u : Value) : Box3 (w.setCell ⟨B, 0, none⟩ u) B T u v1 v2 := ⟨by rw [heap_setCell_same w B 0 _ _ u h.h]; rfl⟩
theorem Box3.put1 (h : Box3 w B T v0 v1 v2) (u : Value) : Box3 (w.setCell ⟨B, 1, none⟩ u) B T v0 u v2 := ⟨by rw [heap_setCell_same w B 1 _ _ u h.h]; rfl⟩
theorem Box3.put2 (h : Box3 w B T v0 v1 v2) (u : Value) : Box3 (w.setCell ⟨B, 2, none⟩ u) B T v0 v1 u := ⟨by rw [heap_setCell_same w B 2 _ _ u h.h]; rfl⟩
theorem Box3.set (h : Box3 w B T v0 v1 v2) (u0 u1 u2 : Value) : Box3 (((w.setCell ⟨B, 0, none⟩ u0).setCell ⟨B, 1, none⟩ u1).setCell ⟨B, 2, none⟩ u2) B T u0 u1 u2 := ((h.put0 u0).put1 u1).put2 u2
end
/-- A way in a block of its own. -/
abbrev WayBox (w : World) (B : Nat) (T : TypeId) (r : WayD) : Prop := Box3 w B T (.string (ba r.1)) (.string (ba r.2.1)) (.int .i64 r.2.2)
theorem grown_of_below {w w' : World} (h : Below w.heap.size w w') : w.grownBy w' none := ⟨h.os, h.tape, h.output, h.size, fun k hk _ => h.block k hk⟩
theorem put_grown {W w2 : World} (hb : Below W.heap.size W w2) (R j : Nat) (v : Value) : W.grownBy (w2.setCell ⟨R, j, none⟩ v) (some R) :=
  ((grown_of_below hb).but (some R)).trans ⟨by simp [World.setCell], by simp [World.setCell], by simp [World.setCell], by simp [World.setCell], fun k _ hk => Below.heap_setCell w2 ⟨R, j, none⟩ v k (fun e => hk (by rw [show k = R from e]))⟩
/-- What a call that reads field i of the way in block R leaves behind. -/
def FieldOut8 (i : Nat) (x : Str) (r : WayD) (R : Nat) (w : World) (e : Ending) (w' : World) : Prop :=
  e = .returned (.int .i64 (setW i x r).2) ∧ WayBox w' R 51 (setW i x r).1 ∧ w.grownBy w' (some R)
section
variable (x : Str) (r : WayD) (R : Nat) (W : World) (hX : WayBox W R 51 r)
include hX
set_option maxHeartbeats 8000000 in
set_option maxRecDepth 100000 in
theorem wayField0 : Calls Tryd.prog 37 #[.pointer (some ⟨R, 0, none⟩), .int .i64 0, .string (ba x)] W (FieldOut8 0 x r R W) := by
  unfold FieldOut8
  have cC := fun W => tcode_any (ba x) W
  rw [lst_ba] at cC
  obtain ⟨u, hu⟩ : ∃ u : Str, (if S3.validC x = true then x else []) = u := ⟨_, rfl⟩
  have hub : (if S3.validC x = true then ba x else ⟨#[]⟩) = ba u := by rw [← hu]; split <;> rfl
  obtain ⟨e0, he0⟩ : ∃ e0 : Int, (if S3.validC x = true then (0 : Int) else 10) = e0 := ⟨_, rfl⟩
  have hS : setW 0 x r = ((u, r.2), e0) := by rw [← hu, ← he0]; simp only [setW]; split <;> rfl
  rw [hub, he0] at cC
  rw [hS]
  obtain ⟨z, hz⟩ : ∃ z, ba x = z := ⟨_, rfl⟩
  rw [hz] at cC ⊢
  clear hub hu he0 hS
  have CC := hid cC
  have HX := hid hX
  have y0 := hX.c0
  have f0 := hX.free 0
  clear cC hX
  go_enter Tryd.func37, Tryd.ntmps37
  go_wp2_with fail
  refine (CC.out W).mono ?_
  rintro e w2 ⟨rfl, rfl⟩
  go_wp2
  go_ret
  exact ⟨rfl, HX.out.put0 _, put_grown (Below.refl _ _) R 0 _⟩
set_option maxHeartbeats 8000000 in
set_option maxRecDepth 100000 in
theorem wayField1 : Calls Tryd.prog 37 #[.pointer (some ⟨R, 0, none⟩), .int .i64 1, .string (ba x)] W (FieldOut8 1 x r R W) := by
  unfold FieldOut8
  have cC := fun W => tcode_any (ba x) W
  rw [lst_ba] at cC
  obtain ⟨u, hu⟩ : ∃ u : Str, (if S3.validC x = true then x else []) = u := ⟨_, rfl⟩
  have hub : (if S3.validC x = true then ba x else ⟨#[]⟩) = ba u := by rw [← hu]; split <;> rfl
  obtain ⟨e0, he0⟩ : ∃ e0 : Int, (if S3.validC x = true then (0 : Int) else 10) = e0 := ⟨_, rfl⟩
  have hS : setW 1 x r = ((r.1, u, r.2.2), e0) := by rw [← hu, ← he0]; simp only [setW]; split <;> rfl
  rw [hub, he0] at cC
  rw [hS]
  obtain ⟨z, hz⟩ : ∃ z, ba x = z := ⟨_, rfl⟩
  rw [hz] at cC ⊢
  clear hub hu he0 hS
  have CC := hid cC
  have HX := hid hX
  have y1 := hX.c1
  have f1 := hX.free 1
  clear cC hX
  go_enter Tryd.func37, Tryd.ntmps37
  go_wp2_with fail
  refine (CC.out W).mono ?_
  rintro e w2 ⟨rfl, rfl⟩
  go_wp2
  go_ret
  exact ⟨rfl, HX.out.put1 _, put_grown (Below.refl _ _) R 1 _⟩
set_option maxHeartbeats 8000000 in
set_option maxRecDepth 100000 in
theorem wayField2 (hE : Env8 W) : Calls Tryd.prog 37 #[.pointer (some ⟨R, 0, none⟩), .int .i64 2, .string (ba x)] W (FieldOut8 2 x r R W) := by
  unfold FieldOut8
  have cC := tslots_any (ba x) W hE
  rw [lst_ba] at cC
  obtain ⟨⟨u, e0⟩, hu⟩ : ∃ u, slotsM x = u := ⟨_, rfl⟩
  have hS : setW 2 x r = ((r.1, r.2.1, u), e0) := by show ((r.1, r.2.1, (slotsM x).1), (slotsM x).2) = _; rw [hu]
  rw [hu] at cC
  dsimp only at cC
  rw [hS]
  obtain ⟨z, hz⟩ : ∃ z, ba x = z := ⟨_, rfl⟩
  rw [hz] at cC ⊢
  clear hu hS
  have CC := hid cC
  have HX := hid hX
  clear cC hX
  go_enter Tryd.func37, Tryd.ntmps37
  go_wp2_with fail
  refine CC.out.mono ?_
  rintro e w2 ⟨rfl, hb⟩
  have hx2 := HX.out.next hb
  have y2 := hx2.c2
  have f2 := hx2.free 2
  have HX2 := hid hx2
  have HB := hid hb
  clear hx2 hb
  go_wp2
  go_ret
  exact ⟨rfl, HX2.out.put2 _, put_grown HB.out R 2 _⟩
theorem wayField_any (hE : Env8 W) (i : Nat) (hi : i < 3) : Calls Tryd.prog 37 #[.pointer (some ⟨R, 0, none⟩), .int .i64 (i : Int), .string (ba x)] W (FieldOut8 i x r R W) := by
  rcases (show i = 0 ∨ i = 1 ∨ i = 2 by omega) with rfl | rfl | rfl
  · exact wayField0 x r R W hX
  · exact wayField1 x r R W hX
  · exact wayField2 x r R W hX hE
end
end Go.Proofs.YtocmbifljkcmeaaDoor
