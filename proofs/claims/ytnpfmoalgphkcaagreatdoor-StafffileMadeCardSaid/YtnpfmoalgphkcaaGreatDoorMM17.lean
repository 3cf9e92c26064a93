/-
  Made grids and times: Grid, Time, One, OddGrid, OddTime of timetablemade.Dice. Conditions: the dice lie in memory; the grid is as made. A made time: Time of .. Conditions: as stated.
-/
import Derived.Test.YtnpfmoalgphkcaaGreatDoorMM01
import Derived.Test.YtnpfmoalgphkcaaGreatDoorMM02
import Derived.Test.YtnpfmoalgphkcaaGreatDoorMM03
import Derived.Test.YtnpfmoalgphkcaaGreatDoorMM04
import Derived.Test.YtnpfmoalgphkcaaGreatDoorMM05
import Derived.Test.YtnpfmoalgphkcaaGreatDoorMM06
import Derived.Test.YtnpfmoalgphkcaaGreatDoorMM07
import Derived.Test.YtnpfmoalgphkcaaGreatDoorMM08
import Derived.Test.YtnpfmoalgphkcaaGreatDoorMM09
import Derived.Test.YtnpfmoalgphkcaaGreatDoorMM13
import Derived.Test.YtnpfmoalgphkcaaGreatDoorMM16
import Derived.Test.YtnpfmoalgphkcaaGreatDoorProg
import Derived.WalkKit
import Derived.WalkSpells
import Derived.WalkLawsBesides
import Derived.Lib.Hide
import Derived.Deep.QuietTactic
import Derived.BigQuiet
import Derived.Laws.Rows
import Derived.OwnWalk
import Derived.Lib.BufferWrite
import Derived.Lib.UnsafeStr
import Derived.Laws.IdiomStrings
import Derived.Laws.BytesArg
import Derived.Laws.BytesString
import Derived.Laws.OwnMore
import Derived.Handy
import Derived.Laws.ResultCell
import Derived.Laws.BitsAllLaws
import Derived.Laws.BitsLemmas
import Derived.Lib.IndexLaws
import Derived.Lib.ItoaNum
import Derived.Lib.Atoi
import Derived.Deep.RegionLaw
import Derived.Deep.RegionHeld3
import Derived.Deep.MidRow
import Derived.Shelf.Strings.Builder1
import Derived.Shelf.Strings.Builder2
import Derived.Shelf.Strings.OnBuilder
import Derived.Shelf.Strings.BuilderF
import Derived.Shelf.Strings.BuilderK
import Derived.Shelf.Strings.Builder2Cap
import Derived.Shelf.Strconv.Atoi
import Derived.Shelf.Strconv.Itoa0
import Derived.Shelf.Strconv.Itoa1
import Derived.Shelf.LaysM
import Derived.Shelf.Strconv.Itoa2
import Derived.Shelf.Strconv.Itoa3
import Derived.Shelf.Strconv.AtoiErrFast
import Derived.Shelf.Strconv.ParseIntEmpty
import Derived.Shelf.Strconv.AtoiFail
import Derived.Shelf.Strconv.Clone
import Derived.Shelf.Strconv.SyntaxError
import Derived.Shelf.LaysC
import Derived.Shelf.Strconv.ToError
import Derived.Shelf.Strconv.AtoiErr
import Derived.Shelf.Strings.Search1
import Derived.Shelf.Strings.Search2
import Derived.Shelf.Strings.Search3
import Derived.Shelf.Strings.Cut
import Derived.Shelf.Strings.Shaped
import Derived.Shelf.Strings.Prefix
import Derived.Shelf.Unicode.DecodeSlow
import Derived.Shelf.Strings.BuilderCap
import Derived.Lib.AtoiErrMem
import Derived.RangeFuncNested
import Derived.RangeFuncBound
import Derived.RangeFuncCalls
import Derived.RangeFuncLeaves
import Derived.Shelf.Abstract
import Derived.Shelf.RegionOpen
import Derived.OwnWalkIn
import Derived.TacticsInMore
import Derived.LoopNIn
import Derived.LoopIn
set_option linter.unusedVariables false
namespace Go.Proofs.YtnpfmoalgphkcaaGreatDoor
open Go Go.Proofs Go.RowKit Go.Lib
def Cells4 (t : TypeId) (w : World) (B : Nat) (a b x d : Int) : Prop := w.heap[B]? = some (.cells #[.int .i64 a, .int .i64 b, .int .i64 x, .int .i64 d] t (0, 0))
section
variable {T : TypeId} {w w' : World} {B : Nat} {a b x d : Int}
theorem Cells4.box (h : Cells4 T w B a b x d) : Box4 w B a b x d := by
  unfold Cells4 at h
  refine ⟨?_, ?_, ?_, ?_, (Array.getElem?_eq_some_iff.1 h).1⟩
  all_goals (rw [Lib.cell_of_heap h]; rfl)
theorem Cells4.free (h : Cells4 T w B a b x d) (j : Nat) : w.frozen? ⟨B, j, none⟩ = false := cells_free h j
theorem Cells4.lt (h : Cells4 T w B a b x d) : B < w.heap.size := (Array.getElem?_eq_some_iff.1 h).1
theorem Cells4.under (h : Cells4 T w B a b x d) (k : Below w.heap.size w w') : Cells4 T w' B a b x d := (k.block _ h.lt).trans h
theorem Cells4.roll {g : Nat} (h : Cells4 T w B a b x d) (k : Rolled g w w') (hg : B ≠ g) : Cells4 T w' B a b x d := (k.block _ hg).trans h
theorem Cells4.other (h : Cells4 T w B a b x d) (R j : Nat) (v : Value) (hR : B ≠ R) : Cells4 T (w.setCell ⟨R, j, none⟩ v) B a b x d := (Below.heap_setCell w ⟨R, j, none⟩ v B (by show B ≠ R; exact hR)).trans h
theorem Cells4.set0 (h : Cells4 T w B a b x d) (v : Int) : Cells4 T (w.setCell ⟨B, 0, none⟩ (.int .i64 v)) B v b x d := by unfold Cells4; rw [heap_setCell_same w B 0 _ _ _ h]; rfl
theorem Cells4.set1 (h : Cells4 T w B a b x d) (v : Int) : Cells4 T (w.setCell ⟨B, 1, none⟩ (.int .i64 v)) B a v x d := by unfold Cells4; rw [heap_setCell_same w B 1 _ _ _ h]; rfl
theorem Cells4.set2 (h : Cells4 T w B a b x d) (v : Int) : Cells4 T (w.setCell ⟨B, 2, none⟩ (.int .i64 v)) B a b v d := by unfold Cells4; rw [heap_setCell_same w B 2 _ _ _ h]; rfl
theorem Cells4.set3 (h : Cells4 T w B a b x d) (v : Int) : Cells4 T (w.setCell ⟨B, 3, none⟩ (.int .i64 v)) B a b x v := by unfold Cells4; rw [heap_setCell_same w B 3 _ _ _ h]; rfl
theorem Cells4.all (h : Cells4 T w B a b x d) (v0 v1 v2 v3 : Int) : Cells4 T ((((w.setCell ⟨B, 0, none⟩ (.int .i64 v0)).setCell ⟨B, 1, none⟩ (.int .i64 v1)).setCell ⟨B, 2, none⟩ (.int .i64 v2)).setCell ⟨B, 3, none⟩ (.int .i64 v3)) B v0 v1 v2 v3 :=
  (((h.set0 v0).set1 v1).set2 v2).set3 v3
end
theorem Cells4.new (w : World) (a b x d : Int) (T : TypeId) : Cells4 T (w.alloc (.cells #[.int .i64 a, .int .i64 b, .int .i64 x, .int .i64 d] T)) w.heap.size a b x d := heap_alloc_new w _
theorem load_grid {w : World} {B : Nat} {a b x d : Int} (h : Cells4 24 w B a b x d) : (loadVar 24 ⟨B, 0, none⟩).run Tryz.prog w = .ok (.agg #[.int .i64 a, .int .i64 b, .int .i64 x, .int .i64 d]) w := by
  obtain ⟨h0, h1, h2, h3, _⟩ := h.box
  simp [loadVar, go_sem, h0, h1, h2, h3]
theorem load_time {w : World} {B : Nat} {a b x d : Int} (h : Cells4 26 w B a b x d) : (loadVar 26 ⟨B, 0, none⟩).run Tryz.prog w = .ok (.agg #[.int .i64 a, .int .i64 b, .int .i64 x, .int .i64 d]) w := by
  obtain ⟨h0, h1, h2, h3, _⟩ := h.box
  simp [loadVar, go_sem, h0, h1, h2, h3]
theorem DE.trans {w0 w1 w2 : World} {g c k k' : Nat} {A : Option Addr} {L : List Int} (h : DE w0 g c A L k w1) (h' : DE w1 g c A L k' w2) : DE w0 g c A L k' w2 := ⟨h'.d, h.p.trans h'.p h.p.size⟩
theorem DE.toBelow {w0 w1 : World} {g c k B : Nat} {A : Option Addr} {L : List Int} (h : DE w0 g c A L k w1) (h1 : B ≤ w0.heap.size) (h2 : B ≤ g) : Below B w0 w1 := h.p.toBelow h1 h2
def MadeG (d s b m : Int) : Prop := (1 ≤ d ∧ d ≤ 5) ∧ (2 ≤ s ∧ s ≤ 8) ∧ (480 ≤ b ∧ b ≤ 585) ∧ (30 ≤ m ∧ m ≤ 60)
def FourP (ok : Int → Int → Int → Int → Prop) (g c : Nat) (A : Option Addr) (L : List Int) (w0 : World) (e : Ending) (w' : World) : Prop :=
  ∃ a b x d k', e = .returned (.agg #[.int .i64 a, .int .i64 b, .int .i64 x, .int .i64 d]) ∧ ok a b x d ∧ DE w0 g c A L k' w'
structure R1 (T : TypeId) (w0 : World) (g c : Nat) (A : Option Addr) (L : List Int) (k : Nat) (w : World) : Prop where
  e : DE w0 g c A L k w
  r : Cells4 T w w0.heap.size 0 0 0 0
  g0 : g < w0.heap.size
theorem R1.roll {T : TypeId} {w0 w w' : World} {g c k k' : Nat} {A : Option Addr} {L : List Int} (h : R1 T w0 g c A L k w) (hd : DiceAt w' g A L c k') (hr : Rolled g w w') : R1 T w0 g c A L k' w' :=
  ⟨h.e.next hd hr, h.r.roll hr (by have := h.g0; omega), h.g0⟩
theorem R1.first {w : World} {g c k : Nat} {A : Option Addr} {L : List Int} (h : DiceAt w g A L c k) (T : TypeId) : R1 T w g c A L k (w.alloc (.cells #[.int .i64 0, .int .i64 0, .int .i64 0, .int .i64 0] T)) :=
  ⟨(DE.first h).alloc _, Cells4.new w 0 0 0 0 T, h.lt⟩
set_option maxHeartbeats 4000000 in
set_option maxRecDepth 100000 in
theorem grid_any (g c k : Nat) (A : Option Addr) (L : List Int) (w : World) (h : DiceAt w g A L c k) : Calls Tryz.prog 22 #[.pointer (some ⟨g, 0, none⟩)] w (FourP MadeG g c A L w) := by
  have HN := hid (fun (W : World) k n hn (h : DiceAt W g A L c k) => next_at g c k A L n hn W h)
  have HR := hid (R1.first h 24)
  clear h
  go_enter Tryz.func22, Tryz.ntmps22
  go_wp2_with fail
  generalize w.alloc (.cells #[.int .i64 0, .int .i64 0, .int .i64 0, .int .i64 0] 24) = w1 at HR ⊢
  refine (HN.out _ _ _ (by omega) HR.out.e.d).mono ?_
  rintro e w2 ⟨rfl, hd, hR⟩
  obtain ⟨r1, hr1⟩ : ∃ r, rollV L k 5 = r := ⟨_, rfl⟩
  have q1 := rollV_range L k 5 (by omega)
  rw [hr1] at q1 ⊢
  have HR2 := hid (HR.out.roll hd hR)
  generalize rollK L k = k1 at HR2
  clear hr1 hd hR HR
  go_wp2_with fail
  refine (HN.out _ _ _ (by omega) HR2.out.e.d).mono ?_
  rintro e w3 ⟨rfl, hd, hR⟩
  obtain ⟨r2, hr2⟩ : ∃ r, rollV L k1 7 = r := ⟨_, rfl⟩
  have q2 := rollV_range L k1 7 (by omega)
  rw [hr2] at q2 ⊢
  have HR3 := hid (HR2.out.roll hd hR)
  generalize rollK L k1 = k2 at HR3
  clear hr2 hd hR HR2
  go_wp2_with fail
  refine (HN.out _ _ _ (by omega) HR3.out.e.d).mono ?_
  rintro e w4 ⟨rfl, hd, hR⟩
  obtain ⟨r3, hr3⟩ : ∃ r, rollV L k2 8 = r := ⟨_, rfl⟩
  have q3 := rollV_range L k2 8 (by omega)
  rw [hr3] at q3 ⊢
  have HR4 := hid (HR3.out.roll hd hR)
  generalize rollK L k2 = k3 at HR4
  clear hr3 hd hR HR3
  have v3 : IntKind.i64.wrap (15 * r3) = 15 * r3 := IntWalk.i64_in _ (by omega)
  have v3' : IntKind.i64.wrap (480 + 15 * r3) = 480 + 15 * r3 := IntWalk.i64_in _ (by clear v3; omega)
  go_wp2_with fail
  refine (HN.out _ _ _ (by omega) HR4.out.e.d).mono ?_
  rintro e w5 ⟨rfl, hd, hR⟩
  obtain ⟨r4, hr4⟩ : ∃ r, rollV L k3 3 = r := ⟨_, rfl⟩
  have q4 := rollV_range L k3 3 (by omega)
  rw [hr4] at q4 ⊢
  have HR5 := hid (HR4.out.roll hd hR)
  generalize rollK L k3 = k4 at HR5
  clear hr4 hd hR HR4
  have v4 : IntKind.i64.wrap (15 * r4) = 15 * r4 := IntWalk.i64_in _ (by clear v3 v3'; omega)
  have v4' : IntKind.i64.wrap (30 + 15 * r4) = 30 + 15 * r4 := IntWalk.i64_in _ (by clear v3 v3' v4; omega)
  obtain ⟨x0, x1, x2, x3, _⟩ := HR5.out.r.box
  have f0 := HR5.out.r.free 0
  have f1 := HR5.out.r.free 1
  have f2 := HR5.out.r.free 2
  have f3 := HR5.out.r.free 3
  have hg := HR5.out.g0
  go_wp2_with fail
  refine bodyPost_ret (v := .agg #[.int .i64 (1 + r1), .int .i64 (2 + r2), .int .i64 (480 + 15 * r3), .int .i64 (30 + 15 * r4)]) (results_c rfl _ _ _ ⟨w.heap.size, 0, none⟩ _ rfl (load_grid (HR5.out.r.all _ _ _ _))) rfl ?_
  exact ⟨_, _, _, _, _, rfl, ⟨by omega, by omega, by clear v3 v3' v4 v4'; omega, by clear v3 v3' v4 v4'; omega⟩, (((HR5.out.e.set _ _ _ (Nat.le_refl _) hg).set _ _ _ (Nat.le_refl _) hg).set _ _ _ (Nat.le_refl _) hg).set _ _ _ (Nat.le_refl _) hg⟩
def MadeT (d s : Int) (n : Nat) (k y t l : Int) : Prop := (1 ≤ k ∧ k < 2 ^ n) ∧ (0 ≤ y ∧ y < d) ∧ (0 ≤ t ∧ t < s) ∧ 1 ≤ l ∧ t + l ≤ s
structure TK (w0 : World) (g c : Nat) (A : Option Addr) (L : List Int) (d s b m : Int) (w : World) : Prop where
  x : Cells4 24 w w0.heap.size d s b m
  r : Cells4 26 w (w0.heap.size + 1) 0 0 0 0
  e : ∃ k, DE w0 g c A L k w
  g0 : g < w0.heap.size
structure TA (w0 : World) (g c : Nat) (A : Option Addr) (L : List Int) (d s b m : Int) (t : Nat) (k1 k2 k3 k4 : Int) (w : World) : Prop where
  h : TK w0 g c A L d s b m w
  tm : Cells4 26 w t k1 k2 k3 k4
  tl : w0.heap.size + 2 ≤ t
section
variable {w0 w w' : World} {g c : Nat} {A : Option Addr} {L : List Int} {d s b m k1 k2 k3 k4 : Int} {t : Nat}
theorem TK.roll (h : TK w0 g c A L d s b m w) (hd : ∃ k', DiceAt w' g A L c k') (hr : Rolled g w w') : TK w0 g c A L d s b m w' := by
  obtain ⟨k, he⟩ := h.e
  obtain ⟨k', hd⟩ := hd
  have := h.g0
  exact ⟨h.x.roll hr (by omega), h.r.roll hr (by omega), ⟨k', he.next hd hr⟩, h.g0⟩
theorem TK.below (h : TK w0 g c A L d s b m w) (k : Below w.heap.size w w') : TK w0 g c A L d s b m w' := by
  obtain ⟨q, he⟩ := h.e
  exact ⟨h.x.under k, h.r.under k, ⟨q, he.below (k.mono he.p.size) h.g0⟩, h.g0⟩
theorem TK.drew (h : TK w0 g c A L d s b m w) : TK w0 g c A L d s b m w.drew := h.below (Below.refl _ w).drew
theorem TK.alloc (h : TK w0 g c A L d s b m w) : TA w0 g c A L d s b m w.heap.size 0 0 0 0 (w.alloc (.cells #[.int .i64 0, .int .i64 0, .int .i64 0, .int .i64 0] 26)) :=
  ⟨h.below ((Below.refl _ w).alloc (Nat.le_refl _) _), Cells4.new w 0 0 0 0 _, h.r.lt⟩
theorem TA.roll (h : TA w0 g c A L d s b m t k1 k2 k3 k4 w) (hd : ∃ k', DiceAt w' g A L c k') (hr : Rolled g w w') : TA w0 g c A L d s b m t k1 k2 k3 k4 w' :=
  ⟨h.h.roll hd hr, h.tm.roll hr (by have := h.h.g0; have := h.tl; omega), h.tl⟩
theorem TK.set (h : TK w0 g c A L d s b m w) (ht : w0.heap.size + 2 ≤ t) (j : Nat) (v : Value) : TK w0 g c A L d s b m (w.setCell ⟨t, j, none⟩ v) := by
  obtain ⟨k, he⟩ := h.e
  have := h.g0
  exact ⟨h.x.other t j v (by omega), h.r.other t j v (by omega), ⟨k, he.set _ _ _ (by omega) (by omega)⟩, h.g0⟩
theorem TA.store (h : TA w0 g c A L d s b m t k1 k2 k3 k4 w) (v0 v1 v2 v3 : Int) :
    TA w0 g c A L d s b m t v0 v1 v2 v3 ((((w.setCell ⟨t, 0, none⟩ (.int .i64 v0)).setCell ⟨t, 1, none⟩ (.int .i64 v1)).setCell ⟨t, 2, none⟩ (.int .i64 v2)).setCell ⟨t, 3, none⟩ (.int .i64 v3)) :=
  ⟨(((h.h.set h.tl _ _).set h.tl _ _).set h.tl _ _).set h.tl _ _, h.tm.all v0 v1 v2 v3, h.tl⟩
theorem TA.last (h : TA w0 g c A L d s b m t k1 k2 k3 k4 w) (v : Int) : TA w0 g c A L d s b m t k1 k2 k3 v (w.setCell ⟨t, 3, none⟩ (.int .i64 v)) :=
  ⟨h.h.set h.tl _ _, h.tm.set3 v, h.tl⟩
theorem TA.fin (h : TA w0 g c A L d s b m t k1 k2 k3 k4 w) (v0 v1 v2 v3 : Int) (W : World)
    (hW : W = ((((w.setCell ⟨w0.heap.size + 1, 0, none⟩ (.int .i64 v0)).setCell ⟨w0.heap.size + 1, 1, none⟩ (.int .i64 v1)).setCell ⟨w0.heap.size + 1, 2, none⟩ (.int .i64 v2)).setCell ⟨w0.heap.size + 1, 3, none⟩ (.int .i64 v3))) :
    (loadVar 26 ⟨w0.heap.size + 1, 0, none⟩).run Tryz.prog W = .ok (.agg #[.int .i64 v0, .int .i64 v1, .int .i64 v2, .int .i64 v3]) W ∧ ∃ k, DE w0 g c A L k W := by
  subst hW
  obtain ⟨k, he⟩ := h.h.e
  have := h.h.g0
  exact ⟨load_time (h.h.r.all _ _ _ _), k, (((he.set _ _ _ (by omega) (by omega)).set _ _ _ (by omega) (by omega)).set _ _ _ (by omega) (by omega)).set _ _ _ (by omega) (by omega)⟩
end
theorem TK.first {w : World} {g c k : Nat} {A : Option Addr} {L : List Int} (h : DiceAt w g A L c k) (d s b m : Int) :
    TK w g c A L d s b m ((w.alloc (.cells #[.int .i64 d, .int .i64 s, .int .i64 b, .int .i64 m] 24)).alloc (.cells #[.int .i64 0, .int .i64 0, .int .i64 0, .int .i64 0] 26)) := by
  have h1 := Cells4.new w d s b m 24
  have he := (DE.first h).alloc (.cells #[.int .i64 d, .int .i64 s, .int .i64 b, .int .i64 m] 24)
  have hs : (w.alloc (.cells #[.int .i64 d, .int .i64 s, .int .i64 b, .int .i64 m] 24)).heap.size = w.heap.size + 1 := by simp
  generalize w.alloc (.cells #[.int .i64 d, .int .i64 s, .int .i64 b, .int .i64 m] 24) = w1 at h1 he hs ⊢
  have h2 := Cells4.new w1 0 0 0 0 26
  rw [hs] at h2
  exact ⟨h1.under ((Below.refl _ w1).alloc (Nat.le_refl _) _), h2, ⟨k, he.alloc _⟩, h.lt⟩
set_option maxHeartbeats 8000000 in
set_option maxRecDepth 100000 in
theorem time_any (g c k : Nat) (A : Option Addr) (L : List Int) (d s b m : Int) (n : Nat) (h1 : 1 ≤ n) (h2 : n ≤ 20) (hd1 : 1 ≤ d) (hd2 : d ≤ 100) (hs1 : 1 ≤ s) (hs2 : s ≤ 100) (w : World) (h : DiceAt w g A L c k) :
    Calls Tryz.prog 28 #[.pointer (some ⟨g, 0, none⟩), .agg #[.int .i64 d, .int .i64 s, .int .i64 b, .int .i64 m], .int .i64 (n : Int)] w (FourP (MadeT d s n) g c A L w) := by
  have hN : ∀ q : Int, 1 ≤ q → q ≤ 4294967296 → ∀ W, TK w g c A L d s b m W → Calls Tryz.prog 23 #[.pointer (some ⟨g, 0, none⟩), .int .i64 q] W fun e w' => (∃ r : Int, e = .returned (.int .i64 r) ∧ 0 ≤ r ∧ r < q) ∧ TK w g c A L d s b m w' := fun q hq hq2 W hk => by
    obtain ⟨k, he⟩ := hk.e
    refine (next_any g c k A L q hq2 W he.d).mono ?_
    rintro e w' ⟨⟨r, h1, h2⟩, h3, h4⟩
    exact ⟨⟨r, h1, h2 hq⟩, hk.roll h3 h4⟩
  have hNa : ∀ (t : Nat) (k1 k2 k3 k4 : Int) (q : Int), 1 ≤ q → q ≤ 4294967296 → ∀ W, TA w g c A L d s b m t k1 k2 k3 k4 W → Calls Tryz.prog 23 #[.pointer (some ⟨g, 0, none⟩), .int .i64 q] W fun e w' => (∃ r : Int, e = .returned (.int .i64 r) ∧ 0 ≤ r ∧ r < q) ∧ TA w g c A L d s b m t k1 k2 k3 k4 w' := fun t k1 k2 k3 k4 q hq hq2 W hk => by
    obtain ⟨k, he⟩ := hk.h.e
    refine (next_any g c k A L q hq2 W he.d).mono ?_
    rintro e w' ⟨⟨r, h1, h2⟩, h3, h4⟩
    exact ⟨⟨r, h1, h2 hq⟩, hk.roll h3 h4⟩
  have cS : Hid (∀ W, TK w g c A L d s b m W → Calls Tryz.prog 55 #[.pointer (some ⟨g, 0, none⟩), .int .i64 (n : Int)] W fun e w' => (∃ r : Int, e = .returned (.int .i64 r) ∧ 1 ≤ r ∧ r < 2 ^ n) ∧ TK w g c A L d s b m w') := hid (fun W hk => by
    obtain ⟨k, he⟩ := hk.e
    refine (set_any n h1 h2 g c k A L W he.d).mono ?_
    rintro e w' ⟨⟨r, h1, h2⟩, h3, h4⟩
    exact ⟨⟨r, h1, h2⟩, hk.roll h3 h4⟩)
  have cSa : Hid (∀ W (t : Nat), TA w g c A L d s b m t 0 0 0 0 W → Calls Tryz.prog 55 #[.pointer (some ⟨g, 0, none⟩), .int .i64 (n : Int)] W fun e w' => (∃ r : Int, e = .returned (.int .i64 r) ∧ 1 ≤ r ∧ r < 2 ^ n) ∧ TA w g c A L d s b m t 0 0 0 0 w') := hid (fun W t hk => by
    obtain ⟨k, he⟩ := hk.h.e
    refine (set_any n h1 h2 g c k A L W he.d).mono ?_
    rintro e w' ⟨⟨r, h1, h2⟩, h3, h4⟩
    exact ⟨⟨r, h1, h2⟩, hk.roll h3 h4⟩)
  have cN1 := hid (hN d hd1 (by omega))
  have cN2 := hid (hN s hs1 (by omega))
  have cN1a := hid (fun W (t : Nat) h => hNa t 0 0 0 0 d hd1 (by omega) W h)
  have cN2a := hid (fun W (t : Nat) h => hNa t 0 0 0 0 s hs1 (by omega) W h)
  have HNA := hid hNa
  have hk := TK.first h d s b m
  have HK := hid hk
  clear h hN hNa hk
  go_enter Tryz.func28, Tryz.ntmps28
  go_wp2_with fail
  have hk := HK.out.drew
  clear HK
  refine wp_region_held_drew (S := fun W => Box4 W w.heap.size d s b m) (by kernel_rfl) hk.x.box (fun hHeld => ?_)
  generalize World.drew _ = w1 at hk hHeld ⊢
  (refine wpAnyH_take (i := 0) (oi := _) (v := ?_) rfl (by kernel_rfl) (by kernel_rfl) (by kernel_rfl) (fun _ _ _ h => h) (Or.inl ⟨by rfl, ?_⟩) (by assumption) ?_; rotate_left; (intro wS hSw; obtain ⟨x0, x1, x2, x3, _⟩ := hSw; (try simp only [List.getElem_toArray, List.getElem_cons_zero]); go_simp; (try with_reducible rfl)))
  try simp only [List.getElem_toArray, List.getElem_cons_zero, Act.put, List.setIfInBounds_toArray, List.set_cons_zero, List.set_cons_succ]
  (refine wpAnyH_take (i := 1) (oi := _) (v := ?_) rfl (by kernel_rfl) (by kernel_rfl) (by kernel_rfl) (fun _ _ _ h => h) (Or.inl ⟨by rfl, ?_⟩) (by assumption) ?_; rotate_left; (intro wS hSw; obtain ⟨x0, x1, x2, x3, _⟩ := hSw; (try simp only [List.getElem_toArray, List.getElem_cons_succ, List.getElem_cons_zero]); go_simp; (try with_reducible rfl)))
  try simp only [List.getElem_toArray, List.getElem_cons_succ, List.getElem_cons_zero, Act.put, List.setIfInBounds_toArray, List.set_cons_zero, List.set_cons_succ]
  (refine wpAnyH_take (i := 3) (oi := _) (v := ?_) rfl (by kernel_rfl) (by kernel_rfl) (by kernel_rfl) (fun _ _ _ h => h) (Or.inl ⟨by rfl, ?_⟩) (by assumption) ?_; rotate_left; (intro wS hSw; obtain ⟨x0, x1, x2, x3, _⟩ := hSw; (try simp only [List.getElem_toArray, List.getElem_cons_succ, List.getElem_cons_zero]); go_simp; (try with_reducible rfl)))
  try simp only [List.getElem_toArray, List.getElem_cons_succ, List.getElem_cons_zero, Act.put, List.setIfInBounds_toArray, List.set_cons_zero, List.set_cons_succ]
  (refine wpAnyH_take (i := 4) (oi := _) (v := ?_) rfl (by kernel_rfl) (by kernel_rfl) (by kernel_rfl) (fun _ _ _ h => h) (Or.inl ⟨by rfl, ?_⟩) (by assumption) ?_; rotate_left; (intro wS hSw; obtain ⟨x0, x1, x2, x3, _⟩ := hSw; (try simp only [List.getElem_toArray, List.getElem_cons_succ, List.getElem_cons_zero]); go_simp; (try with_reducible rfl)))
  try simp only [List.getElem_toArray, List.getElem_cons_succ, List.getElem_cons_zero, Act.put, List.setIfInBounds_toArray, List.set_cons_zero, List.set_cons_succ]
  (refine wpAnyH_take (i := 5) (oi := _) (v := ?_) rfl (by kernel_rfl) (by kernel_rfl) (by kernel_rfl) (fun _ _ _ h => h) (Or.inl ⟨by rfl, ?_⟩) (by assumption) ?_; rotate_left; (intro wS hSw; obtain ⟨x0, x1, x2, x3, _⟩ := hSw; (try simp only [List.getElem_toArray, List.getElem_cons_succ, List.getElem_cons_zero]); go_simp; (try with_reducible rfl)))
  try simp only [List.getElem_toArray, List.getElem_cons_succ, List.getElem_cons_zero, Act.put, List.setIfInBounds_toArray, List.set_cons_zero, List.set_cons_succ]
  (refine wpAnyH_take (i := 7) (oi := _) (v := ?_) rfl (by kernel_rfl) (by kernel_rfl) (by kernel_rfl) (fun _ _ _ h => h) (Or.inl ⟨by rfl, ?_⟩) (by assumption) ?_; rotate_left; (intro wS hSw; obtain ⟨x0, x1, x2, x3, _⟩ := hSw; (try simp only [List.getElem_toArray, List.getElem_cons_succ, List.getElem_cons_zero]); go_simp; (try with_reducible rfl)))
  try simp only [List.getElem_toArray, List.getElem_cons_succ, List.getElem_cons_zero, Act.put, List.setIfInBounds_toArray, List.set_cons_zero, List.set_cons_succ]
  (refine wpAnyH_take (i := 8) (oi := _) (v := ?_) rfl (by kernel_rfl) (by kernel_rfl) (by kernel_rfl) (fun _ _ _ h => h) (Or.inl ⟨by rfl, ?_⟩) (by assumption) ?_; rotate_left; (intro wS hSw; obtain ⟨x0, x1, x2, x3, _⟩ := hSw; (try simp only [List.getElem_toArray, List.getElem_cons_succ, List.getElem_cons_zero]); go_simp; (try with_reducible rfl)))
  try simp only [List.getElem_toArray, List.getElem_cons_succ, List.getElem_cons_zero, Act.put, List.setIfInBounds_toArray, List.set_cons_zero, List.set_cons_succ]
  (refine wpAnyH_take (i := 9) (oi := _) (v := ?_) rfl (by kernel_rfl) (by kernel_rfl) (by kernel_rfl) (fun _ _ _ h => h) (Or.inl ⟨by rfl, ?_⟩) (by assumption) ?_; rotate_left; (intro wS hSw; obtain ⟨x0, x1, x2, x3, _⟩ := hSw; (try simp only [List.getElem_toArray, List.getElem_cons_succ, List.getElem_cons_zero]); go_simp; (try with_reducible rfl)))
  try simp only [List.getElem_toArray, List.getElem_cons_succ, List.getElem_cons_zero, Act.put, List.setIfInBounds_toArray, List.set_cons_zero, List.set_cons_succ]
  refine wpAnyH_ready (rs := [2, 12]) (by kernel_rfl) (by simp) ?_
  refine AllReadyH.cons (o := _) rfl (fun K hK => ?_) (AllReadyH.cons (o := _) rfl (fun K hK => ?_) AllReadyH.nil)
  · (try simp only [List.getElem_toArray, List.getElem_cons_succ, List.getElem_cons_zero])
    go_simp
    go_at_call 55
    refine (cS.out _ hk).mono ?_
    rintro e w1 ⟨⟨k1, rfl, p1, p1b⟩, hk⟩
    go_wp2_with fail
    refine hK.out _ _ (hk.x.box) (fun hHeld => ?_)
    clear hK K
    try simp only [List.getElem_toArray, List.getElem_cons_succ, List.getElem_cons_zero, Act.put, List.setIfInBounds_toArray, List.set_cons_zero, List.set_cons_succ]
    refine wpAnyH_ready (rs := [6, 12]) (by kernel_rfl) (by simp) ?_
    refine AllReadyH.cons (o := _) rfl (fun K hK => ?_) (AllReadyH.cons (o := _) rfl (fun K hK => ?_) AllReadyH.nil)
    · (try simp only [List.getElem_toArray, List.getElem_cons_succ, List.getElem_cons_zero])
      go_simp
      go_at_call 23
      refine (cN1.out _ hk).mono ?_
      rintro e w1 ⟨⟨k2, rfl, p2, p2b⟩, hk⟩
      go_wp2_with fail
      refine hK.out _ _ (hk.x.box) (fun hHeld => ?_)
      clear hK K
      try simp only [List.getElem_toArray, List.getElem_cons_succ, List.getElem_cons_zero, Act.put, List.setIfInBounds_toArray, List.set_cons_zero, List.set_cons_succ]
      refine wpAnyH_ready (rs := [10, 12]) (by kernel_rfl) (by simp) ?_
      refine AllReadyH.cons (o := _) rfl (fun K hK => ?_) (AllReadyH.cons (o := _) rfl (fun K hK => ?_) AllReadyH.nil)
      · (try simp only [List.getElem_toArray, List.getElem_cons_succ, List.getElem_cons_zero])
        go_simp
        go_at_call 23
        refine (cN2.out _ hk).mono ?_
        rintro e w1 ⟨⟨k3, rfl, p3, p3b⟩, hk⟩
        go_wp2_with fail
        refine hK.out _ _ (hk.x.box) (fun hHeld => ?_)
        clear hK K
        try simp only [List.getElem_toArray, List.getElem_cons_succ, List.getElem_cons_zero, Act.put, List.setIfInBounds_toArray, List.set_cons_zero, List.set_cons_succ]
        (refine wpAnyH_take (i := 11) (oi := _) (v := ?_) rfl (by kernel_rfl) (by kernel_rfl) (by kernel_rfl) (fun _ _ _ h => h) (Or.inl ⟨by rfl, ?_⟩) (by assumption) ?_; rotate_left; (intro wS hSw; obtain ⟨x0, x1, x2, x3, _⟩ := hSw; (try simp only [List.getElem_toArray, List.getElem_cons_succ, List.getElem_cons_zero]); go_simp; (try with_reducible rfl)))
        try simp only [List.getElem_toArray, List.getElem_cons_succ, List.getElem_cons_zero, Act.put, List.setIfInBounds_toArray, List.set_cons_zero, List.set_cons_succ]
        refine wpAnyH_ready (rs := [12]) (by kernel_rfl) (by simp) ?_
        refine AllReadyH.cons (o := _) rfl (fun K hK => ?_) AllReadyH.nil
        (try simp only [List.getElem_toArray, List.getElem_cons_succ, List.getElem_cons_zero])
        go_simp
        have ha := hk.alloc
        generalize w1.heap.size = t at ha ⊢
        refine hK.out _ _ ha.h.x.box (fun hHeld => ?_)
        clear hK K hk
        try simp only [List.getElem_toArray, List.getElem_cons_succ, List.getElem_cons_zero, Act.put, List.setIfInBounds_toArray, List.set_cons_zero, List.set_cons_succ]
        have x := ha.tm.box
        obtain ⟨y0, y1, y2, y3, _⟩ := x
        have f0 := ha.tm.free 0
        have f1 := ha.tm.free 1
        have f2 := ha.tm.free 2
        have f3 := ha.tm.free 3
        refine wpAnyH_ready (rs := [13]) (by kernel_rfl) (by simp) ?_
        refine AllReadyH.cons (o := _) rfl (fun K hK => ?_) AllReadyH.nil
        (try simp only [List.getElem_toArray, List.getElem_cons_succ, List.getElem_cons_zero])
        go_simp
        have ha := ha.store k1 k2 k3 0
        refine hK.out _ _ ha.h.x.box (fun hHeld => ?_)
        clear hK K hHeld y0 y1 y2 y3 f0 f1 f2 f3
        try simp only [List.getElem_toArray, List.getElem_cons_succ, List.getElem_cons_zero, Act.put, List.setIfInBounds_toArray, List.set_cons_zero, List.set_cons_succ]
        refine wpAnyH_done (by kernel_rfl) ?_ _
        have v1 : IntKind.i64.wrap (s - k3) = s - k3 := IntWalk.i64_in _ (by omega)
        obtain ⟨x0, x1, x2, x3, _⟩ := ha.h.x.box
        obtain ⟨y0, y1, y2, y3, _⟩ := ha.tm.box
        go_wp2_with fail
        refine (HNA.out _ _ _ _ _ (s - k3) (by omega) (by omega) _ ha).mono ?_
        rintro e w2 ⟨⟨r, rfl, q1, q2⟩, hz⟩
        clear x0 x1 x2 x3 y0 y1 y2 y3
        have v2 : IntKind.i64.wrap (1 + r) = 1 + r := IntWalk.i64_in _ (by omega)
        obtain ⟨x0, x1, x2, x3, _⟩ := hz.h.r.box
        obtain ⟨y0, y1, y2, y3, _⟩ := hz.tm.box
        have f3 := hz.tm.free 3
        have z0 := hz.h.r.free 0
        have z1 := hz.h.r.free 1
        have z2 := hz.h.r.free 2
        have z3 := hz.h.r.free 3
        have hne : w.heap.size + 1 ≠ t := by have := hz.tl; omega
        go_wp2_with fail
        have hf := (hz.last (1 + r)).fin k1 k2 k3 (1 + r) _ rfl
        refine bodyPost_ret (v := .agg #[.int .i64 k1, .int .i64 k2, .int .i64 k3, .int .i64 (1 + r)]) (results_c rfl _ _ _ ⟨w.heap.size + 1, 0, none⟩ _ rfl hf.1) rfl ?_
        obtain ⟨kz, hz2⟩ := hf.2
        exact ⟨_, _, _, _, kz, rfl, ⟨⟨p1, p1b⟩, ⟨p2, p2b⟩, ⟨p3, p3b⟩, by omega, by omega⟩, hz2⟩
      · (try simp only [List.getElem_toArray, List.getElem_cons_succ, List.getElem_cons_zero])
        go_simp
        have ha := hk.alloc
        generalize w1.heap.size = t at ha ⊢
        refine hK.out _ _ ha.h.x.box (fun hHeld => ?_)
        clear hK K hk
        try simp only [List.getElem_toArray, List.getElem_cons_succ, List.getElem_cons_zero, Act.put, List.setIfInBounds_toArray, List.set_cons_zero, List.set_cons_succ]
        refine wpAnyH_ready (rs := [10]) (by kernel_rfl) (by simp) ?_
        refine AllReadyH.cons (o := _) rfl (fun K hK => ?_) AllReadyH.nil
        (try simp only [List.getElem_toArray, List.getElem_cons_succ, List.getElem_cons_zero])
        go_simp
        go_at_call 23
        refine (cN2a.out _ _ ha).mono ?_
        rintro e w1 ⟨⟨k3, rfl, p3, p3b⟩, ha⟩
        go_wp2_with fail
        refine hK.out _ _ (ha.h.x.box) (fun hHeld => ?_)
        clear hK K
        try simp only [List.getElem_toArray, List.getElem_cons_succ, List.getElem_cons_zero, Act.put, List.setIfInBounds_toArray, List.set_cons_zero, List.set_cons_succ]
        (refine wpAnyH_take (i := 11) (oi := _) (v := ?_) rfl (by kernel_rfl) (by kernel_rfl) (by kernel_rfl) (fun _ _ _ h => h) (Or.inl ⟨by rfl, ?_⟩) (by assumption) ?_; rotate_left; (intro wS hSw; obtain ⟨x0, x1, x2, x3, _⟩ := hSw; (try simp only [List.getElem_toArray, List.getElem_cons_succ, List.getElem_cons_zero]); go_simp; (try with_reducible rfl)))
        try simp only [List.getElem_toArray, List.getElem_cons_succ, List.getElem_cons_zero, Act.put, List.setIfInBounds_toArray, List.set_cons_zero, List.set_cons_succ]
        have x := ha.tm.box
        obtain ⟨y0, y1, y2, y3, _⟩ := x
        have f0 := ha.tm.free 0
        have f1 := ha.tm.free 1
        have f2 := ha.tm.free 2
        have f3 := ha.tm.free 3
        refine wpAnyH_ready (rs := [13]) (by kernel_rfl) (by simp) ?_
        refine AllReadyH.cons (o := _) rfl (fun K hK => ?_) AllReadyH.nil
        (try simp only [List.getElem_toArray, List.getElem_cons_succ, List.getElem_cons_zero])
        go_simp
        have ha := ha.store k1 k2 k3 0
        refine hK.out _ _ ha.h.x.box (fun hHeld => ?_)
        clear hK K hHeld y0 y1 y2 y3 f0 f1 f2 f3
        try simp only [List.getElem_toArray, List.getElem_cons_succ, List.getElem_cons_zero, Act.put, List.setIfInBounds_toArray, List.set_cons_zero, List.set_cons_succ]
        refine wpAnyH_done (by kernel_rfl) ?_ _
        have v1 : IntKind.i64.wrap (s - k3) = s - k3 := IntWalk.i64_in _ (by omega)
        obtain ⟨x0, x1, x2, x3, _⟩ := ha.h.x.box
        obtain ⟨y0, y1, y2, y3, _⟩ := ha.tm.box
        go_wp2_with fail
        refine (HNA.out _ _ _ _ _ (s - k3) (by omega) (by omega) _ ha).mono ?_
        rintro e w2 ⟨⟨r, rfl, q1, q2⟩, hz⟩
        clear x0 x1 x2 x3 y0 y1 y2 y3
        have v2 : IntKind.i64.wrap (1 + r) = 1 + r := IntWalk.i64_in _ (by omega)
        obtain ⟨x0, x1, x2, x3, _⟩ := hz.h.r.box
        obtain ⟨y0, y1, y2, y3, _⟩ := hz.tm.box
        have f3 := hz.tm.free 3
        have z0 := hz.h.r.free 0
        have z1 := hz.h.r.free 1
        have z2 := hz.h.r.free 2
        have z3 := hz.h.r.free 3
        have hne : w.heap.size + 1 ≠ t := by have := hz.tl; omega
        go_wp2_with fail
        have hf := (hz.last (1 + r)).fin k1 k2 k3 (1 + r) _ rfl
        refine bodyPost_ret (v := .agg #[.int .i64 k1, .int .i64 k2, .int .i64 k3, .int .i64 (1 + r)]) (results_c rfl _ _ _ ⟨w.heap.size + 1, 0, none⟩ _ rfl hf.1) rfl ?_
        obtain ⟨kz, hz2⟩ := hf.2
        exact ⟨_, _, _, _, kz, rfl, ⟨⟨p1, p1b⟩, ⟨p2, p2b⟩, ⟨p3, p3b⟩, by omega, by omega⟩, hz2⟩
    · (try simp only [List.getElem_toArray, List.getElem_cons_succ, List.getElem_cons_zero])
      go_simp
      have ha := hk.alloc
      generalize w1.heap.size = t at ha ⊢
      refine hK.out _ _ ha.h.x.box (fun hHeld => ?_)
      clear hK K hk
      try simp only [List.getElem_toArray, List.getElem_cons_succ, List.getElem_cons_zero, Act.put, List.setIfInBounds_toArray, List.set_cons_zero, List.set_cons_succ]
      refine wpAnyH_ready (rs := [6]) (by kernel_rfl) (by simp) ?_
      refine AllReadyH.cons (o := _) rfl (fun K hK => ?_) AllReadyH.nil
      (try simp only [List.getElem_toArray, List.getElem_cons_succ, List.getElem_cons_zero])
      go_simp
      go_at_call 23
      refine (cN1a.out _ _ ha).mono ?_
      rintro e w1 ⟨⟨k2, rfl, p2, p2b⟩, ha⟩
      go_wp2_with fail
      refine hK.out _ _ (ha.h.x.box) (fun hHeld => ?_)
      clear hK K
      try simp only [List.getElem_toArray, List.getElem_cons_succ, List.getElem_cons_zero, Act.put, List.setIfInBounds_toArray, List.set_cons_zero, List.set_cons_succ]
      refine wpAnyH_ready (rs := [10]) (by kernel_rfl) (by simp) ?_
      refine AllReadyH.cons (o := _) rfl (fun K hK => ?_) AllReadyH.nil
      (try simp only [List.getElem_toArray, List.getElem_cons_succ, List.getElem_cons_zero])
      go_simp
      go_at_call 23
      refine (cN2a.out _ _ ha).mono ?_
      rintro e w1 ⟨⟨k3, rfl, p3, p3b⟩, ha⟩
      go_wp2_with fail
      refine hK.out _ _ (ha.h.x.box) (fun hHeld => ?_)
      clear hK K
      try simp only [List.getElem_toArray, List.getElem_cons_succ, List.getElem_cons_zero, Act.put, List.setIfInBounds_toArray, List.set_cons_zero, List.set_cons_succ]
      (refine wpAnyH_take (i := 11) (oi := _) (v := ?_) rfl (by kernel_rfl) (by kernel_rfl) (by kernel_rfl) (fun _ _ _ h => h) (Or.inl ⟨by rfl, ?_⟩) (by assumption) ?_; rotate_left; (intro wS hSw; obtain ⟨x0, x1, x2, x3, _⟩ := hSw; (try simp only [List.getElem_toArray, List.getElem_cons_succ, List.getElem_cons_zero]); go_simp; (try with_reducible rfl)))
      try simp only [List.getElem_toArray, List.getElem_cons_succ, List.getElem_cons_zero, Act.put, List.setIfInBounds_toArray, List.set_cons_zero, List.set_cons_succ]
      have x := ha.tm.box
      obtain ⟨y0, y1, y2, y3, _⟩ := x
      have f0 := ha.tm.free 0
      have f1 := ha.tm.free 1
      have f2 := ha.tm.free 2
      have f3 := ha.tm.free 3
      refine wpAnyH_ready (rs := [13]) (by kernel_rfl) (by simp) ?_
      refine AllReadyH.cons (o := _) rfl (fun K hK => ?_) AllReadyH.nil
      (try simp only [List.getElem_toArray, List.getElem_cons_succ, List.getElem_cons_zero])
      go_simp
      have ha := ha.store k1 k2 k3 0
      refine hK.out _ _ ha.h.x.box (fun hHeld => ?_)
      clear hK K hHeld y0 y1 y2 y3 f0 f1 f2 f3
      try simp only [List.getElem_toArray, List.getElem_cons_succ, List.getElem_cons_zero, Act.put, List.setIfInBounds_toArray, List.set_cons_zero, List.set_cons_succ]
      refine wpAnyH_done (by kernel_rfl) ?_ _
      have v1 : IntKind.i64.wrap (s - k3) = s - k3 := IntWalk.i64_in _ (by omega)
      obtain ⟨x0, x1, x2, x3, _⟩ := ha.h.x.box
      obtain ⟨y0, y1, y2, y3, _⟩ := ha.tm.box
      go_wp2_with fail
      refine (HNA.out _ _ _ _ _ (s - k3) (by omega) (by omega) _ ha).mono ?_
      rintro e w2 ⟨⟨r, rfl, q1, q2⟩, hz⟩
      clear x0 x1 x2 x3 y0 y1 y2 y3
      have v2 : IntKind.i64.wrap (1 + r) = 1 + r := IntWalk.i64_in _ (by omega)
      obtain ⟨x0, x1, x2, x3, _⟩ := hz.h.r.box
      obtain ⟨y0, y1, y2, y3, _⟩ := hz.tm.box
      have f3 := hz.tm.free 3
      have z0 := hz.h.r.free 0
      have z1 := hz.h.r.free 1
      have z2 := hz.h.r.free 2
      have z3 := hz.h.r.free 3
      have hne : w.heap.size + 1 ≠ t := by have := hz.tl; omega
      go_wp2_with fail
      have hf := (hz.last (1 + r)).fin k1 k2 k3 (1 + r) _ rfl
      refine bodyPost_ret (v := .agg #[.int .i64 k1, .int .i64 k2, .int .i64 k3, .int .i64 (1 + r)]) (results_c rfl _ _ _ ⟨w.heap.size + 1, 0, none⟩ _ rfl hf.1) rfl ?_
      obtain ⟨kz, hz2⟩ := hf.2
      exact ⟨_, _, _, _, kz, rfl, ⟨⟨p1, p1b⟩, ⟨p2, p2b⟩, ⟨p3, p3b⟩, by omega, by omega⟩, hz2⟩
  · (try simp only [List.getElem_toArray, List.getElem_cons_succ, List.getElem_cons_zero])
    go_simp
    have ha := hk.alloc
    generalize w1.heap.size = t at ha ⊢
    refine hK.out _ _ ha.h.x.box (fun hHeld => ?_)
    clear hK K hk
    try simp only [List.getElem_toArray, List.getElem_cons_succ, List.getElem_cons_zero, Act.put, List.setIfInBounds_toArray, List.set_cons_zero, List.set_cons_succ]
    refine wpAnyH_ready (rs := [2]) (by kernel_rfl) (by simp) ?_
    refine AllReadyH.cons (o := _) rfl (fun K hK => ?_) AllReadyH.nil
    (try simp only [List.getElem_toArray, List.getElem_cons_succ, List.getElem_cons_zero])
    go_simp
    go_at_call 55
    refine (cSa.out _ _ ha).mono ?_
    rintro e w1 ⟨⟨k1, rfl, p1, p1b⟩, ha⟩
    go_wp2_with fail
    refine hK.out _ _ (ha.h.x.box) (fun hHeld => ?_)
    clear hK K
    try simp only [List.getElem_toArray, List.getElem_cons_succ, List.getElem_cons_zero, Act.put, List.setIfInBounds_toArray, List.set_cons_zero, List.set_cons_succ]
    refine wpAnyH_ready (rs := [6]) (by kernel_rfl) (by simp) ?_
    refine AllReadyH.cons (o := _) rfl (fun K hK => ?_) AllReadyH.nil
    (try simp only [List.getElem_toArray, List.getElem_cons_succ, List.getElem_cons_zero])
    go_simp
    go_at_call 23
    refine (cN1a.out _ _ ha).mono ?_
    rintro e w1 ⟨⟨k2, rfl, p2, p2b⟩, ha⟩
    go_wp2_with fail
    refine hK.out _ _ (ha.h.x.box) (fun hHeld => ?_)
    clear hK K
    try simp only [List.getElem_toArray, List.getElem_cons_succ, List.getElem_cons_zero, Act.put, List.setIfInBounds_toArray, List.set_cons_zero, List.set_cons_succ]
    refine wpAnyH_ready (rs := [10]) (by kernel_rfl) (by simp) ?_
    refine AllReadyH.cons (o := _) rfl (fun K hK => ?_) AllReadyH.nil
    (try simp only [List.getElem_toArray, List.getElem_cons_succ, List.getElem_cons_zero])
    go_simp
    go_at_call 23
    refine (cN2a.out _ _ ha).mono ?_
    rintro e w1 ⟨⟨k3, rfl, p3, p3b⟩, ha⟩
    go_wp2_with fail
    refine hK.out _ _ (ha.h.x.box) (fun hHeld => ?_)
    clear hK K
    try simp only [List.getElem_toArray, List.getElem_cons_succ, List.getElem_cons_zero, Act.put, List.setIfInBounds_toArray, List.set_cons_zero, List.set_cons_succ]
    (refine wpAnyH_take (i := 11) (oi := _) (v := ?_) rfl (by kernel_rfl) (by kernel_rfl) (by kernel_rfl) (fun _ _ _ h => h) (Or.inl ⟨by rfl, ?_⟩) (by assumption) ?_; rotate_left; (intro wS hSw; obtain ⟨x0, x1, x2, x3, _⟩ := hSw; (try simp only [List.getElem_toArray, List.getElem_cons_succ, List.getElem_cons_zero]); go_simp; (try with_reducible rfl)))
    try simp only [List.getElem_toArray, List.getElem_cons_succ, List.getElem_cons_zero, Act.put, List.setIfInBounds_toArray, List.set_cons_zero, List.set_cons_succ]
    have x := ha.tm.box
    obtain ⟨y0, y1, y2, y3, _⟩ := x
    have f0 := ha.tm.free 0
    have f1 := ha.tm.free 1
    have f2 := ha.tm.free 2
    have f3 := ha.tm.free 3
    refine wpAnyH_ready (rs := [13]) (by kernel_rfl) (by simp) ?_
    refine AllReadyH.cons (o := _) rfl (fun K hK => ?_) AllReadyH.nil
    (try simp only [List.getElem_toArray, List.getElem_cons_succ, List.getElem_cons_zero])
    go_simp
    have ha := ha.store k1 k2 k3 0
    refine hK.out _ _ ha.h.x.box (fun hHeld => ?_)
    clear hK K hHeld y0 y1 y2 y3 f0 f1 f2 f3
    try simp only [List.getElem_toArray, List.getElem_cons_succ, List.getElem_cons_zero, Act.put, List.setIfInBounds_toArray, List.set_cons_zero, List.set_cons_succ]
    refine wpAnyH_done (by kernel_rfl) ?_ _
    have v1 : IntKind.i64.wrap (s - k3) = s - k3 := IntWalk.i64_in _ (by omega)
    obtain ⟨x0, x1, x2, x3, _⟩ := ha.h.x.box
    obtain ⟨y0, y1, y2, y3, _⟩ := ha.tm.box
    go_wp2_with fail
    refine (HNA.out _ _ _ _ _ (s - k3) (by omega) (by omega) _ ha).mono ?_
    rintro e w2 ⟨⟨r, rfl, q1, q2⟩, hz⟩
    clear x0 x1 x2 x3 y0 y1 y2 y3
    have v2 : IntKind.i64.wrap (1 + r) = 1 + r := IntWalk.i64_in _ (by omega)
    obtain ⟨x0, x1, x2, x3, _⟩ := hz.h.r.box
    obtain ⟨y0, y1, y2, y3, _⟩ := hz.tm.box
    have f3 := hz.tm.free 3
    have z0 := hz.h.r.free 0
    have z1 := hz.h.r.free 1
    have z2 := hz.h.r.free 2
    have z3 := hz.h.r.free 3
    have hne : w.heap.size + 1 ≠ t := by have := hz.tl; omega
    go_wp2_with fail
    have hf := (hz.last (1 + r)).fin k1 k2 k3 (1 + r) _ rfl
    refine bodyPost_ret (v := .agg #[.int .i64 k1, .int .i64 k2, .int .i64 k3, .int .i64 (1 + r)]) (results_c rfl _ _ _ ⟨w.heap.size + 1, 0, none⟩ _ rfl hf.1) rfl ?_
    obtain ⟨kz, hz2⟩ := hf.2
    exact ⟨_, _, _, _, kz, rfl, ⟨⟨p1, p1b⟩, ⟨p2, p2b⟩, ⟨p3, p3b⟩, by omega, by omega⟩, hz2⟩
theorem Cells4.played {T : TypeId} {w w' : World} {B g : Nat} {a b x d : Int} (h : Cells4 T w B a b x d) (p : Played w.heap.size g w w') (hB : B ≠ g) : Cells4 T w' B a b x d := (p.block _ h.lt hB).trans h
theorem made_grid {d s b m : Int} (h : MadeG d s b m) : GridP d s b m := by
  obtain ⟨h1, h2, h3, h4⟩ := h
  have hm : s * m ≤ 8 * 60 := Int.mul_le_mul (by omega) (by omega) (by omega) (by omega)
  exact ⟨by omega, by omega, by omega, by omega, by omega⟩
theorem made_frame {d s b m : Int} {n : Nat} (h : MadeG d s b m) (h1 : 1 ≤ n) (h2 : n ≤ 20) : frameB d s b m n = true :=
  decide_eq_true ⟨decide_eq_true (made_grid h), by omega, by omega⟩
theorem mvalid {n : Nat} {k : Int} (h1 : 1 ≤ n) (h2 : n ≤ 20) (hk : 1 ≤ k) (hk2 : k < 2 ^ n) : validM k n = true := validM_yes h1 h2 hk hk2
theorem pow_mono {a b : Nat} (h : a ≤ b) : (2 : Int) ^ a ≤ 2 ^ b := by
  have := pow_le h
  have e : (2 : Int) ^ a = ((2 ^ a : Nat) : Int) := by rw [Int.natCast_pow]; rfl
  have e2 : (2 : Int) ^ b = ((2 ^ b : Nat) : Int) := by rw [Int.natCast_pow]; rfl
  omega
theorem made_sound {d s b m k y t l : Int} {n : Nat} (h : MadeG d s b m) (h1 : 1 ≤ n) (h2 : n ≤ 20) (ht : MadeT d s n k y t l) : soundB k y t l = true := by
  obtain ⟨g1, g2, g3, g4⟩ := h
  obtain ⟨t1, t2, t3, t4, t5⟩ := ht
  have := pow_mono h2
  exact decide_eq_true ⟨validM_yes (n := 20) (by omega) (by omega) t1.1 (by omega), by omega, by omega, by omega, by omega⟩
theorem made_fits {d s b m k y t l : Int} {n : Nat} (h : MadeG d s b m) (h1 : 1 ≤ n) (h2 : n ≤ 20) (ht : MadeT d s n k y t l) : fitsM d s b m n k y t l = 0 := by
  unfold fitsM
  rw [if_pos (made_frame h h1 h2), if_pos ⟨made_sound h h1 h2 ht, mvalid h1 h2 ht.1.1 ht.1.2, ht.2.1.2, ht.2.2.2.2⟩]
def Small4 (a b x d : Int) : Prop := (-4611686018427387904 ≤ a ∧ a ≤ 4611686018427387904) ∧ (-4611686018427387904 ≤ b ∧ b ≤ 4611686018427387904) ∧ (-4611686018427387904 ≤ x ∧ x ≤ 4611686018427387904) ∧ (-4611686018427387904 ≤ d ∧ d ≤ 4611686018427387904)
structure OK (T : TypeId) (w0 : World) (g c : Nat) (A : Option Addr) (L : List Int) (a b x d : Int) (k : Nat) (w : World) : Prop where
  e : DE w0 g c A L k w
  z : Cells4 T w w0.heap.size a b x d
  o : Cells4 T w (w0.heap.size + 1) 0 0 0 0
  g0 : g < w0.heap.size
section
variable {T : TypeId} {w0 w w' : World} {g c k k' : Nat} {A : Option Addr} {L : List Int} {a b x d : Int}
theorem OK.below (h : OK T w0 g c A L a b x d k w) (hb : Below w.heap.size w w') : OK T w0 g c A L a b x d k w' := ⟨h.e.below (hb.mono h.e.p.size) h.g0, h.z.under hb, h.o.under hb, h.g0⟩
theorem OK.roll (h : OK T w0 g c A L a b x d k w) (hd : DiceAt w' g A L c k') (hr : Rolled g w w') : OK T w0 g c A L a b x d k' w' := by
  have := h.g0
  exact ⟨h.e.next hd hr, h.z.roll hr (by omega), h.o.roll hr (by omega), h.g0⟩
theorem OK.set0 (h : OK T w0 g c A L a b x d k w) (v : Int) : OK T w0 g c A L v b x d k (w.setCell ⟨w0.heap.size, 0, none⟩ (.int .i64 v)) := ⟨h.e.set _ _ _ (Nat.le_refl _) h.g0, h.z.set0 v, h.o.other _ _ _ (by omega), h.g0⟩
theorem OK.set1 (h : OK T w0 g c A L a b x d k w) (v : Int) : OK T w0 g c A L a v x d k (w.setCell ⟨w0.heap.size, 1, none⟩ (.int .i64 v)) := ⟨h.e.set _ _ _ (Nat.le_refl _) h.g0, h.z.set1 v, h.o.other _ _ _ (by omega), h.g0⟩
theorem OK.set2 (h : OK T w0 g c A L a b x d k w) (v : Int) : OK T w0 g c A L a b v d k (w.setCell ⟨w0.heap.size, 2, none⟩ (.int .i64 v)) := ⟨h.e.set _ _ _ (Nat.le_refl _) h.g0, h.z.set2 v, h.o.other _ _ _ (by omega), h.g0⟩
theorem OK.set3 (h : OK T w0 g c A L a b x d k w) (v : Int) : OK T w0 g c A L a b x v k (w.setCell ⟨w0.heap.size, 3, none⟩ (.int .i64 v)) := ⟨h.e.set _ _ _ (Nat.le_refl _) h.g0, h.z.set3 v, h.o.other _ _ _ (by omega), h.g0⟩
theorem OK.fin (h : OK T w0 g c A L a b x d k w) (W : World) (hW : W = ((((w.setCell ⟨w0.heap.size + 1, 0, none⟩ (.int .i64 a)).setCell ⟨w0.heap.size + 1, 1, none⟩ (.int .i64 b)).setCell ⟨w0.heap.size + 1, 2, none⟩ (.int .i64 x)).setCell ⟨w0.heap.size + 1, 3, none⟩ (.int .i64 d))) :
    Cells4 T W (w0.heap.size + 1) a b x d ∧ DE w0 g c A L k W := by
  subst hW
  have := h.g0
  exact ⟨h.o.all _ _ _ _, (((h.e.set _ _ _ (by omega) (by omega)).set _ _ _ (by omega) (by omega)).set _ _ _ (by omega) (by omega)).set _ _ _ (by omega) (by omega)⟩
end
theorem OK.first {w : World} {g c k : Nat} {A : Option Addr} {L : List Int} (h : DiceAt w g A L c k) (a b x d : Int) (T : TypeId) :
    OK T w g c A L a b x d k ((w.alloc (.cells #[.int .i64 a, .int .i64 b, .int .i64 x, .int .i64 d] T)).alloc (.cells #[.int .i64 0, .int .i64 0, .int .i64 0, .int .i64 0] T)) := by
  have h1 := Cells4.new w a b x d T
  have he := (DE.first h).alloc (.cells #[.int .i64 a, .int .i64 b, .int .i64 x, .int .i64 d] T)
  have hs : (w.alloc (.cells #[.int .i64 a, .int .i64 b, .int .i64 x, .int .i64 d] T)).heap.size = w.heap.size + 1 := by simp
  generalize w.alloc (.cells #[.int .i64 a, .int .i64 b, .int .i64 x, .int .i64 d] T) = w1 at h1 he hs ⊢
  have h2 := Cells4.new w1 0 0 0 0 T
  rw [hs] at h2
  exact ⟨he.alloc _, h1.under ((Below.refl _ w1).alloc (Nat.le_refl _) _), h2, h.lt⟩
def oddTimeTab0 : List Int := [0, -1, 1048576, 1048575]
theorem oddTimeTab0_bd (m : Nat) (hm : m < 4) : -4611686018427387904 ≤ oddTimeTab0.getD m 0 ∧ oddTimeTab0.getD m 0 ≤ 4611686018427387904 := by
  rcases (show m = 0 ∨ m = 1 ∨ m = 2 ∨ m = 3 by omega) with e | e | e | e
  all_goals (subst e; decide)
def oddTimeTab1 : List Int := [-1, 6, 7]
theorem oddTimeTab1_bd (m : Nat) (hm : m < 3) : -4611686018427387904 ≤ oddTimeTab1.getD m 0 ∧ oddTimeTab1.getD m 0 ≤ 4611686018427387904 := by
  rcases (show m = 0 ∨ m = 1 ∨ m = 2 by omega) with e | e | e
  all_goals (subst e; decide)
def oddTimeTab2 : List Int := [-1, 23, 24, 4611686018427387904]
theorem oddTimeTab2_bd (m : Nat) (hm : m < 4) : -4611686018427387904 ≤ oddTimeTab2.getD m 0 ∧ oddTimeTab2.getD m 0 ≤ 4611686018427387904 := by
  rcases (show m = 0 ∨ m = 1 ∨ m = 2 ∨ m = 3 by omega) with e | e | e | e
  all_goals (subst e; decide)
def oddTimeTab3 : List Int := [0, 24, 25, -1, 4611686018427387904]
theorem oddTimeTab3_bd (m : Nat) (hm : m < 5) : -4611686018427387904 ≤ oddTimeTab3.getD m 0 ∧ oddTimeTab3.getD m 0 ≤ 4611686018427387904 := by
  rcases (show m = 0 ∨ m = 1 ∨ m = 2 ∨ m = 3 ∨ m = 4 by omega) with e | e | e | e | e
  all_goals (subst e; decide)
set_option maxHeartbeats 8000000 in
set_option maxRecDepth 100000 in
theorem oddTime_any (g c k : Nat) (A : Option Addr) (L : List Int) (a b x d : Int) (hs : Small4 a b x d) (w : World) (h : DiceAt w g A L c k) :
    Calls Tryz.prog 54 #[.pointer (some ⟨g, 0, none⟩), .agg #[.int .i64 a, .int .i64 b, .int .i64 x, .int .i64 d]] w (FourP Small4 g c A L w) := by
  obtain ⟨s0, s1, s2, s3⟩ := hs
  have HN := hid (fun (W : World) k n hn (h : DiceAt W g A L c k) => next_at g c k A L n hn W h)
  have HOK := hid (OK.first h a b x d 26)
  clear h
  go_enter Tryz.func54, Tryz.ntmps54
  go_wp2_with fail
  generalize (w.alloc (.cells #[.int .i64 a, .int .i64 b, .int .i64 x, .int .i64 d] 26)).alloc (.cells #[.int .i64 0, .int .i64 0, .int .i64 0, .int .i64 0] 26) = w1 at HOK ⊢
  refine (HN.out _ _ _ (by omega) HOK.out.e.d).mono ?_
  rintro e w2 ⟨rfl, hd2, hR2⟩
  obtain ⟨r, hr⟩ : ∃ r, rollV L k 4 = r := ⟨_, rfl⟩
  rw [hr]
  have HK := hid (HOK.out.roll hd2 hR2)
  generalize rollK L k = k2 at HK
  clear hr hd2 hR2 HOK
  by_cases e0 : r = 0
  · subst e0
    have HK3 := hid (HK.out.below ((Below.refl _ w2).alloc (Nat.le_refl _) (.cells #[.int .i64 0, .int .i64 (-1), .int .i64 1048576, .int .i64 1048575] 3)))
    have HN3 := hid (heap_alloc_new w2 (.cells #[.int .i64 0, .int .i64 (-1), .int .i64 1048576, .int .i64 1048575] 3))
    have hge := HK.out.o.lt
    go_wp2_with fail
    generalize w2.alloc (.cells #[.int .i64 0, .int .i64 (-1), .int .i64 1048576, .int .i64 1048575] 3) = w3 at HK3 HN3 ⊢
    refine (HN.out _ _ _ (by omega) HK3.out.e.d).mono ?_
    rintro e w4 ⟨rfl, hd4, hR4⟩
    obtain ⟨q, hq⟩ : ∃ q, rollV L k2 4 = q := ⟨_, rfl⟩
    have hqq := rollV_range L k2 4 (by omega)
    rw [hq] at hqq ⊢
    have HK4 := hid (HK3.out.roll hd4 hR4)
    have hgg := HK.out.g0
    have hN4 := (hR4.block w2.heap.size (by omega)).trans HN3.out
    generalize rollK L k2 = k4 at HK4
    obtain ⟨m, rfl⟩ : ∃ m : Nat, q = (m : Int) := ⟨q.toNat, by omega⟩
    have hc : w4.cell? ⟨w2.heap.size, m, none⟩ = some (.int .i64 (oddTimeTab0.getD m 0)) := by
      rw [Lib.cell_of_heap hN4]
      rcases (show m = 0 ∨ m = 1 ∨ m = 2 ∨ m = 3 by omega) with e | e | e | e <;> subst e <;> rfl
    have hvb := oddTimeTab0_bd m (by omega)
    generalize oddTimeTab0.getD m 0 = V at hc hvb
    clear hq hd4 hR4 HK3 HN3 hN4 HK
    obtain ⟨z0, z1, z2, z3, _⟩ := HK4.out.z.box
    obtain ⟨o0, o1, o2, o3, _⟩ := HK4.out.o.box
    have f0 := HK4.out.z.free 0
    have p0 := HK4.out.o.free 0
    have f1 := HK4.out.z.free 1
    have p1 := HK4.out.o.free 1
    have f2 := HK4.out.z.free 2
    have p2 := HK4.out.o.free 2
    have f3 := HK4.out.z.free 3
    have p3 := HK4.out.o.free 3
    go_wp2_with fail
    have hf := (HK4.out.set0 (V)).fin _ rfl
    refine bodyPost_ret (v := .agg #[.int .i64 (V), .int .i64 (b), .int .i64 (x), .int .i64 (d)]) (results_c rfl _ _ _ ⟨w.heap.size + 1, 0, none⟩ _ rfl (load_time hf.1)) rfl ?_
    exact ⟨_, _, _, _, _, rfl, ⟨by omega, by omega, by omega, by omega⟩, hf.2⟩
  · have e0' : (r == 0) = false := by simpa using e0
    by_cases e1 : r = 1
    · subst e1
      have HK3 := hid (HK.out.below ((Below.refl _ w2).alloc (Nat.le_refl _) (.cells #[.int .i64 (-1), .int .i64 6, .int .i64 7] 3)))
      have HN3 := hid (heap_alloc_new w2 (.cells #[.int .i64 (-1), .int .i64 6, .int .i64 7] 3))
      have hge := HK.out.o.lt
      go_wp2_with fail
      generalize w2.alloc (.cells #[.int .i64 (-1), .int .i64 6, .int .i64 7] 3) = w3 at HK3 HN3 ⊢
      refine (HN.out _ _ _ (by omega) HK3.out.e.d).mono ?_
      rintro e w4 ⟨rfl, hd4, hR4⟩
      obtain ⟨q, hq⟩ : ∃ q, rollV L k2 3 = q := ⟨_, rfl⟩
      have hqq := rollV_range L k2 3 (by omega)
      rw [hq] at hqq ⊢
      have HK4 := hid (HK3.out.roll hd4 hR4)
      have hgg := HK.out.g0
      have hN4 := (hR4.block w2.heap.size (by omega)).trans HN3.out
      generalize rollK L k2 = k4 at HK4
      obtain ⟨m, rfl⟩ : ∃ m : Nat, q = (m : Int) := ⟨q.toNat, by omega⟩
      have hc : w4.cell? ⟨w2.heap.size, m, none⟩ = some (.int .i64 (oddTimeTab1.getD m 0)) := by
        rw [Lib.cell_of_heap hN4]
        rcases (show m = 0 ∨ m = 1 ∨ m = 2 by omega) with e | e | e <;> subst e <;> rfl
      have hvb := oddTimeTab1_bd m (by omega)
      generalize oddTimeTab1.getD m 0 = V at hc hvb
      clear hq hd4 hR4 HK3 HN3 hN4 HK
      obtain ⟨z0, z1, z2, z3, _⟩ := HK4.out.z.box
      obtain ⟨o0, o1, o2, o3, _⟩ := HK4.out.o.box
      have f0 := HK4.out.z.free 0
      have p0 := HK4.out.o.free 0
      have f1 := HK4.out.z.free 1
      have p1 := HK4.out.o.free 1
      have f2 := HK4.out.z.free 2
      have p2 := HK4.out.o.free 2
      have f3 := HK4.out.z.free 3
      have p3 := HK4.out.o.free 3
      go_wp2_with fail
      have hf := (HK4.out.set1 (V)).fin _ rfl
      refine bodyPost_ret (v := .agg #[.int .i64 (a), .int .i64 (V), .int .i64 (x), .int .i64 (d)]) (results_c rfl _ _ _ ⟨w.heap.size + 1, 0, none⟩ _ rfl (load_time hf.1)) rfl ?_
      exact ⟨_, _, _, _, _, rfl, ⟨by omega, by omega, by omega, by omega⟩, hf.2⟩
    · have e1' : (r == 1) = false := by simpa using e1
      by_cases e2 : r = 2
      · subst e2
        have HK3 := hid (HK.out.below ((Below.refl _ w2).alloc (Nat.le_refl _) (.cells #[.int .i64 (-1), .int .i64 23, .int .i64 24, .int .i64 4611686018427387904] 3)))
        have HN3 := hid (heap_alloc_new w2 (.cells #[.int .i64 (-1), .int .i64 23, .int .i64 24, .int .i64 4611686018427387904] 3))
        have hge := HK.out.o.lt
        go_wp2_with fail
        generalize w2.alloc (.cells #[.int .i64 (-1), .int .i64 23, .int .i64 24, .int .i64 4611686018427387904] 3) = w3 at HK3 HN3 ⊢
        refine (HN.out _ _ _ (by omega) HK3.out.e.d).mono ?_
        rintro e w4 ⟨rfl, hd4, hR4⟩
        obtain ⟨q, hq⟩ : ∃ q, rollV L k2 4 = q := ⟨_, rfl⟩
        have hqq := rollV_range L k2 4 (by omega)
        rw [hq] at hqq ⊢
        have HK4 := hid (HK3.out.roll hd4 hR4)
        have hgg := HK.out.g0
        have hN4 := (hR4.block w2.heap.size (by omega)).trans HN3.out
        generalize rollK L k2 = k4 at HK4
        obtain ⟨m, rfl⟩ : ∃ m : Nat, q = (m : Int) := ⟨q.toNat, by omega⟩
        have hc : w4.cell? ⟨w2.heap.size, m, none⟩ = some (.int .i64 (oddTimeTab2.getD m 0)) := by
          rw [Lib.cell_of_heap hN4]
          rcases (show m = 0 ∨ m = 1 ∨ m = 2 ∨ m = 3 by omega) with e | e | e | e <;> subst e <;> rfl
        have hvb := oddTimeTab2_bd m (by omega)
        generalize oddTimeTab2.getD m 0 = V at hc hvb
        clear hq hd4 hR4 HK3 HN3 hN4 HK
        obtain ⟨z0, z1, z2, z3, _⟩ := HK4.out.z.box
        obtain ⟨o0, o1, o2, o3, _⟩ := HK4.out.o.box
        have f0 := HK4.out.z.free 0
        have p0 := HK4.out.o.free 0
        have f1 := HK4.out.z.free 1
        have p1 := HK4.out.o.free 1
        have f2 := HK4.out.z.free 2
        have p2 := HK4.out.o.free 2
        have f3 := HK4.out.z.free 3
        have p3 := HK4.out.o.free 3
        go_wp2_with fail
        have hf := (HK4.out.set2 (V)).fin _ rfl
        refine bodyPost_ret (v := .agg #[.int .i64 (a), .int .i64 (b), .int .i64 (V), .int .i64 (d)]) (results_c rfl _ _ _ ⟨w.heap.size + 1, 0, none⟩ _ rfl (load_time hf.1)) rfl ?_
        exact ⟨_, _, _, _, _, rfl, ⟨by omega, by omega, by omega, by omega⟩, hf.2⟩
      · have e2' : (r == 2) = false := by simpa using e2
        have HK3 := hid (HK.out.below ((Below.refl _ w2).alloc (Nat.le_refl _) (.cells #[.int .i64 0, .int .i64 24, .int .i64 25, .int .i64 (-1), .int .i64 4611686018427387904] 3)))
        have HN3 := hid (heap_alloc_new w2 (.cells #[.int .i64 0, .int .i64 24, .int .i64 25, .int .i64 (-1), .int .i64 4611686018427387904] 3))
        have hge := HK.out.o.lt
        go_wp2_with fail
        generalize w2.alloc (.cells #[.int .i64 0, .int .i64 24, .int .i64 25, .int .i64 (-1), .int .i64 4611686018427387904] 3) = w3 at HK3 HN3 ⊢
        refine (HN.out _ _ _ (by omega) HK3.out.e.d).mono ?_
        rintro e w4 ⟨rfl, hd4, hR4⟩
        obtain ⟨q, hq⟩ : ∃ q, rollV L k2 5 = q := ⟨_, rfl⟩
        have hqq := rollV_range L k2 5 (by omega)
        rw [hq] at hqq ⊢
        have HK4 := hid (HK3.out.roll hd4 hR4)
        have hgg := HK.out.g0
        have hN4 := (hR4.block w2.heap.size (by omega)).trans HN3.out
        generalize rollK L k2 = k4 at HK4
        obtain ⟨m, rfl⟩ : ∃ m : Nat, q = (m : Int) := ⟨q.toNat, by omega⟩
        have hc : w4.cell? ⟨w2.heap.size, m, none⟩ = some (.int .i64 (oddTimeTab3.getD m 0)) := by
          rw [Lib.cell_of_heap hN4]
          rcases (show m = 0 ∨ m = 1 ∨ m = 2 ∨ m = 3 ∨ m = 4 by omega) with e | e | e | e | e <;> subst e <;> rfl
        have hvb := oddTimeTab3_bd m (by omega)
        generalize oddTimeTab3.getD m 0 = V at hc hvb
        clear hq hd4 hR4 HK3 HN3 hN4 HK
        obtain ⟨z0, z1, z2, z3, _⟩ := HK4.out.z.box
        obtain ⟨o0, o1, o2, o3, _⟩ := HK4.out.o.box
        have f0 := HK4.out.z.free 0
        have p0 := HK4.out.o.free 0
        have f1 := HK4.out.z.free 1
        have p1 := HK4.out.o.free 1
        have f2 := HK4.out.z.free 2
        have p2 := HK4.out.o.free 2
        have f3 := HK4.out.z.free 3
        have p3 := HK4.out.o.free 3
        go_wp2_with fail
        have hf := (HK4.out.set3 (V)).fin _ rfl
        refine bodyPost_ret (v := .agg #[.int .i64 (a), .int .i64 (b), .int .i64 (x), .int .i64 (V)]) (results_c rfl _ _ _ ⟨w.heap.size + 1, 0, none⟩ _ rfl (load_time hf.1)) rfl ?_
        exact ⟨_, _, _, _, _, rfl, ⟨by omega, by omega, by omega, by omega⟩, hf.2⟩
abbrev Q4 := Int × Int × Int × Int
def TimeIs (w : World) (o : Option (Nat × Q4)) (lo : Nat) : Prop := ∀ t k y u l, o = some (t, k, y, u, l) → Cells4 26 w t k y u l ∧ lo ≤ t
structure RS (w1 : World) (g c : Nat) (A : Option Addr) (L : List Int) (tg : Nat) (d s b m : Int) (oa ob : Option (Nat × Q4)) (w : World) : Prop where
  e : ∃ k, DE w1 g c A L k w
  x : Cells4 24 w tg d s b m
  a : TimeIs w oa w1.heap.size
  b : TimeIs w ob w1.heap.size
  ne : ∀ ta qa tb qb, oa = some (ta, qa) → ob = some (tb, qb) → ta ≠ tb
  na : ∀ ta qa, oa = some (ta, qa) → ta ≠ tg
  nb : ∀ tb qb, ob = some (tb, qb) → tb ≠ tg
  gl : g < w1.heap.size
  tl : w1.heap.size ≤ tg
section
variable {w1 w w' : World} {g c : Nat} {A : Option Addr} {L : List Int} {tg : Nat} {d s b m : Int} {oa ob : Option (Nat × Q4)}
theorem RS.de {k : Nat} (h : RS w1 g c A L tg d s b m oa ob w) (he : DE w g c A L k w') : RS w1 g c A L tg d s b m oa ob w' := by
  obtain ⟨k0, h0⟩ := h.e
  have hg := h.gl
  have ht := h.tl
  exact ⟨⟨k, h0.trans he⟩, h.x.played he.p (by omega), fun t k y u l ho => ⟨(h.a t k y u l ho).1.played he.p (by have := (h.a t k y u l ho).2; omega), (h.a t k y u l ho).2⟩,
    fun t k y u l ho => ⟨(h.b t k y u l ho).1.played he.p (by have := (h.b t k y u l ho).2; omega), (h.b t k y u l ho).2⟩, h.ne, h.na, h.nb, h.gl, h.tl⟩
theorem RS.roll (h : RS w1 g c A L tg d s b m oa ob w) (hd : ∃ k, DiceAt w' g A L c k) (hr : Rolled g w w') : RS w1 g c A L tg d s b m oa ob w' := by
  obtain ⟨k, hd⟩ := hd
  obtain ⟨k0, h0⟩ := h.e
  exact h.de ((DE.first h0.d).next hd hr)
theorem RS.below (h : RS w1 g c A L tg d s b m oa ob w) (hb : Below w.heap.size w w') : RS w1 g c A L tg d s b m oa ob w' := by
  obtain ⟨k0, h0⟩ := h.e
  exact h.de ((DE.first h0.d).below hb (h0.d.lt))
theorem RS.drew (h : RS w1 g c A L tg d s b m oa ob w) : RS w1 g c A L tg d s b m oa ob w.drew := h.below (Below.refl _ w).drew
end
section
variable {w1 w w' : World} {g c : Nat} {A : Option Addr} {L : List Int} {tg ta tb : Nat} {d s b m k y u l k' y' u' l' : Int} {oa ob : Option (Nat × Q4)}
end
end Go.Proofs.YtnpfmoalgphkcaaGreatDoor
