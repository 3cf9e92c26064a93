/-
  Made grids and times: Grid, Time, One, OddGrid, OddTime of timetablemade.Dice. Conditions: the dice lie in memory; the grid is as made.
  The walk of CoursefileFree. Conditions: the numbers lie in memory as a slice of ints; the variables hold what their text lays.
  A slice of integers that came in: what they hold. Conditions: as the lemmas state.
-/
import Derived.Test.YtigdcgklpapfbaaGreatDoorVA01
import Derived.Test.YtigdcgklpapfbaaGreatDoorVA02
import Derived.Test.YtigdcgklpapfbaaGreatDoorVA03
import Derived.Test.YtigdcgklpapfbaaGreatDoorVA04
import Derived.Test.YtigdcgklpapfbaaGreatDoorVA05
import Derived.Test.YtigdcgklpapfbaaGreatDoorVA06
import Derived.Test.YtigdcgklpapfbaaGreatDoorVA07
import Derived.Test.YtigdcgklpapfbaaGreatDoorVA08
import Derived.Test.YtigdcgklpapfbaaGreatDoorVA09
import Derived.Test.YtigdcgklpapfbaaGreatDoorVA10
import Derived.Test.YtigdcgklpapfbaaGreatDoorVA11
import Derived.Test.YtigdcgklpapfbaaGreatDoorVA12
import Derived.Test.YtigdcgklpapfbaaGreatDoorVA13
import Derived.Test.YtigdcgklpapfbaaGreatDoorVA14
import Derived.Test.YtigdcgklpapfbaaGreatDoorVA15
import Derived.Test.YtigdcgklpapfbaaGreatDoorVA16
import Derived.Test.YtigdcgklpapfbaaGreatDoorVA17
import Derived.Test.YtigdcgklpapfbaaGreatDoorVA18
import Derived.Test.YtigdcgklpapfbaaGreatDoorVA19
import Derived.Test.YtigdcgklpapfbaaGreatDoorVA20
import Derived.Test.YtigdcgklpapfbaaGreatDoorVA21
import Derived.Test.YtigdcgklpapfbaaGreatDoorVA22
import Derived.Test.YtigdcgklpapfbaaGreatDoorVA23
import Derived.Test.YtigdcgklpapfbaaGreatDoorVA24
import Derived.Test.YtigdcgklpapfbaaGreatDoorVA25
import Derived.Test.YtigdcgklpapfbaaGreatDoorProg
import Derived.WalkKit
import Derived.WalkSpells
import Derived.WalkLawsBesides
import Derived.Lib.Hide
import Derived.Deep.QuietTactic
import Derived.BigQuiet
import Derived.Laws.Rows
import Derived.OwnWalk
import Derived.Lib.BufferWrite
import Derived.Lib.UnsafeStr
import Derived.Laws.IdiomStrings
import Derived.Laws.BytesArg
import Derived.Laws.BytesString
import Derived.Laws.OwnMore
import Derived.Handy
import Derived.Laws.ResultCell
import Derived.Laws.BitsAllLaws
import Derived.Laws.BitsLemmas
import Derived.Lib.IndexLaws
import Derived.Lib.ItoaNum
import Derived.Lib.Atoi
import Derived.Deep.MidRow
import Derived.Shelf.Strings.Builder1
import Derived.Shelf.Strings.Builder2
import Derived.Shelf.Strings.OnBuilder
import Derived.Shelf.Strings.Trim
import Derived.Shelf.Small.Bits
import Derived.Shelf.Small.Strs
import Derived.Shelf.Small.Wraps
import Derived.Shelf.Strings.BuilderF
import Derived.Shelf.Strings.BuilderK
import Derived.Shelf.Strings.Builder2Cap
import Derived.Shelf.Strconv.Atoi
import Derived.Shelf.Strconv.Itoa0
import Derived.Shelf.Strconv.Itoa1
import Derived.Shelf.LaysM
import Derived.Shelf.Strconv.Itoa2
import Derived.Shelf.Strconv.Itoa3
import Derived.Shelf.Strconv.AtoiErrFast
import Derived.Shelf.Strconv.ParseIntEmpty
import Derived.Shelf.Strconv.AtoiFail
import Derived.Shelf.Strconv.Clone
import Derived.Shelf.Strconv.SyntaxError
import Derived.Shelf.LaysC
import Derived.Shelf.Strconv.ToError
import Derived.Shelf.Strconv.AtoiErr
import Derived.Shelf.Strings.Search1
import Derived.Shelf.Strings.Search2
import Derived.Shelf.Strings.Search3
import Derived.Shelf.Strings.Cut
import Derived.Shelf.Strings.Shaped
import Derived.Shelf.Strings.Prefix
import Derived.Shelf.Strings.Runes
import Derived.Shelf.Strings.AsciiSet
import Derived.Shelf.Bits.Mul64
import Derived.Shelf.Strings.Repeat
import Derived.Shelf.Unicode.DecodeSlow
import Derived.Shelf.Strings.BuilderCap
import Derived.Shelf.Slices.Turned
import Derived.Ground.SlgfProg
import Derived.Shelf.SlicesE.IndexFunc
import Derived.Lib.AtoiErrMem
import Derived.Deep.RegionLaw
import Derived.Deep.RegionHeld3
import Derived.RangeFuncNested
import Derived.RangeFuncBound
import Derived.RangeFuncCalls
import Derived.RangeFuncLeaves
import Derived.Shelf.Abstract
import Derived.Shelf.RegionOpen
import Derived.OwnWalkIn
import Derived.Lib.Bytealg
import Derived.Lib.SlTrimSet
import Derived.Shelf.Strings.SlTrimAscii
import Derived.RegionTactic
import Derived.Lib.Repeat
import Derived.Lib.SlicesS
import Derived.TacticsInMore
import Derived.LoopNIn
import Derived.LoopIn
import Derived.Deep.DeepCutAuto
import Derived.Lib.Join
import Derived.Laws.Concat
import Derived.Maps.OwnSet
import Derived.Maps.Range
import Derived.Sort.EncStr
import Derived.Shelf.SlGeneric
import Derived.Shelf.Sort.Plain
import Derived.Shelf.Slices.In.SortNone
import Derived.Ground.NamesProg
import Derived.Sort.OwnSorted
import Derived.RangeFuncBox
import Derived.Sort.Grow
import Derived.Shelf.SlSortCmp.NoneTotal
import Derived.Ground.SlsfProg
import Derived.Shelf.SlicesQ.Contains
import Derived.Ground.SlgqProg
import Derived.StillTailTactics
import Derived.Laws.StructEq
import Derived.WalkMore
import Derived.Deep.AppendLies
import Derived.Maps.AppendAt
import Derived.IntWalk
import Derived.Test.YtigdcgklpapfbaaGreatDoorCards
import Derived.Test.YtigdcgklpapfbaaGreatDoorTie
import Derived.Lib.SmallJoins
import Derived.SizedLaws
import Derived.Stop.LaidErr
import Derived.Deep.DeepWitnessRowRef
import Derived.ProofKit
import Derived.OpenShut
import Derived.Deep.DeepHandedRow
import Derived.Deep.DeepLaidRun
import Derived.Lib.LaidU8
import Derived.Shelf.Vars
import Derived.Laws.IdiomArrays
set_option linter.unusedVariables false
namespace Go.Proofs.YtigdcgklpapfbaaGreatDoor
open Go Go.Proofs Go.RowKit Go.Lib

/-- Four numbers lie in a block that may be written. -/
def Cells4 (t : TypeId) (w : World) (B : Nat) (a b x d : Int) : Prop := w.heap[B]? = some (.cells #[.int .i64 a, .int .i64 b, .int .i64 x, .int .i64 d] t (0, 0))
section
variable {T : TypeId} {w w' : World} {B : Nat} {a b x d : Int}
theorem Cells4.box (h : Cells4 T w B a b x d) : Box4 w B a b x d := by
  unfold Cells4 at h
  refine ⟨?_, ?_, ?_, ?_, (Array.getElem?_eq_some_iff.1 h).1⟩
  all_goals (rw [Lib.cell_of_heap h]; rfl)
theorem Cells4.free (h : Cells4 T w B a b x d) (j : Nat) : w.frozen? ⟨B, j, none⟩ = false := cells_free h j
theorem Cells4.lt (h : Cells4 T w B a b x d) : B < w.heap.size := (Array.getElem?_eq_some_iff.1 h).1
theorem Cells4.under (h : Cells4 T w B a b x d) (k : Below w.heap.size w w') : Cells4 T w' B a b x d := (k.block _ h.lt).trans h
theorem Cells4.roll {g : Nat} (h : Cells4 T w B a b x d) (k : Rolled g w w') (hg : B ≠ g) : Cells4 T w' B a b x d := (k.block _ hg).trans h
theorem Cells4.set0 (h : Cells4 T w B a b x d) (v : Int) : Cells4 T (w.setCell ⟨B, 0, none⟩ (.int .i64 v)) B v b x d := by unfold Cells4; rw [heap_setCell_same w B 0 _ _ _ h]; rfl
theorem Cells4.set1 (h : Cells4 T w B a b x d) (v : Int) : Cells4 T (w.setCell ⟨B, 1, none⟩ (.int .i64 v)) B a v x d := by unfold Cells4; rw [heap_setCell_same w B 1 _ _ _ h]; rfl
theorem Cells4.set2 (h : Cells4 T w B a b x d) (v : Int) : Cells4 T (w.setCell ⟨B, 2, none⟩ (.int .i64 v)) B a b v d := by unfold Cells4; rw [heap_setCell_same w B 2 _ _ _ h]; rfl
theorem Cells4.set3 (h : Cells4 T w B a b x d) (v : Int) : Cells4 T (w.setCell ⟨B, 3, none⟩ (.int .i64 v)) B a b x v := by unfold Cells4; rw [heap_setCell_same w B 3 _ _ _ h]; rfl
theorem Cells4.all (h : Cells4 T w B a b x d) (v0 v1 v2 v3 : Int) : Cells4 T ((((w.setCell ⟨B, 0, none⟩ (.int .i64 v0)).setCell ⟨B, 1, none⟩ (.int .i64 v1)).setCell ⟨B, 2, none⟩ (.int .i64 v2)).setCell ⟨B, 3, none⟩ (.int .i64 v3)) B v0 v1 v2 v3 :=
  (((h.set0 v0).set1 v1).set2 v2).set3 v3
end
theorem Cells4.new (w : World) (a b x d : Int) (T : TypeId) : Cells4 T (w.alloc (.cells #[.int .i64 a, .int .i64 b, .int .i64 x, .int .i64 d] T)) w.heap.size a b x d := heap_alloc_new w _
theorem load_grid {w : World} {B : Nat} {a b x d : Int} (h : Cells4 24 w B a b x d) : (loadVar 24 ⟨B, 0, none⟩).run Tryz.prog w = .ok (.agg #[.int .i64 a, .int .i64 b, .int .i64 x, .int .i64 d]) w := by
  obtain ⟨h0, h1, h2, h3, _⟩ := h.box
  simp [loadVar, go_sem, h0, h1, h2, h3]
theorem DE.trans {w0 w1 w2 : World} {g c k k' : Nat} {A : Option Addr} {L : List Int} (h : DE w0 g c A L k w1) (h' : DE w1 g c A L k' w2) : DE w0 g c A L k' w2 := ⟨h'.d, h.p.trans h'.p h.p.size⟩
theorem DE.toBelow {w0 w1 : World} {g c k B : Nat} {A : Option Addr} {L : List Int} (h : DE w0 g c A L k w1) (h1 : B ≤ w0.heap.size) (h2 : B ≤ g) : Below B w0 w1 := h.p.toBelow h1 h2

/-- A grid as it is made. -/
def MadeG (d s b m : Int) : Prop := (1 ≤ d ∧ d ≤ 5) ∧ (2 ≤ s ∧ s ≤ 8) ∧ (480 ≤ b ∧ b ≤ 585) ∧ (30 ≤ m ∧ m ≤ 60)
/-- What a function that makes a struct of four numbers hands back. -/
def FourP (ok : Int → Int → Int → Int → Prop) (g c : Nat) (A : Option Addr) (L : List Int) (w0 : World) (e : Ending) (w' : World) : Prop :=
  ∃ a b x d k', e = .returned (.agg #[.int .i64 a, .int .i64 b, .int .i64 x, .int .i64 d]) ∧ ok a b x d ∧ DE w0 g c A L k' w'
/-- A block of the call's own, and the dice. -/
structure R1 (T : TypeId) (w0 : World) (g c : Nat) (A : Option Addr) (L : List Int) (k : Nat) (w : World) : Prop where
  e : DE w0 g c A L k w
  r : Cells4 T w w0.heap.size 0 0 0 0
  g0 : g < w0.heap.size
theorem R1.roll {T : TypeId} {w0 w w' : World} {g c k k' : Nat} {A : Option Addr} {L : List Int} (h : R1 T w0 g c A L k w) (hd : DiceAt w' g A L c k') (hr : Rolled g w w') : R1 T w0 g c A L k' w' :=
  ⟨h.e.next hd hr, h.r.roll hr (by have := h.g0; omega), h.g0⟩
theorem R1.first {w : World} {g c k : Nat} {A : Option Addr} {L : List Int} (h : DiceAt w g A L c k) (T : TypeId) : R1 T w g c A L k (w.alloc (.cells #[.int .i64 0, .int .i64 0, .int .i64 0, .int .i64 0] T)) :=
  ⟨(DE.first h).alloc _, Cells4.new w 0 0 0 0 T, h.lt⟩
set_option maxHeartbeats 4000000 in
set_option maxRecDepth 100000 in
theorem grid_any (g c k : Nat) (A : Option Addr) (L : List Int) (w : World) (h : DiceAt w g A L c k) : Calls Tryz.prog 25 #[.pointer (some ⟨g, 0, none⟩)] w (FourP MadeG g c A L w) := by
  have HN := hid (fun (W : World) k n hn (h : DiceAt W g A L c k) => next_at g c k A L n hn W h)
  have HR := hid (R1.first h 24)
  clear h
  go_enter Tryz.func25, Tryz.ntmps25
  go_wp2_with fail
  generalize w.alloc (.cells #[.int .i64 0, .int .i64 0, .int .i64 0, .int .i64 0] 24) = w1 at HR ⊢
  refine (HN.out _ _ _ (by omega) HR.out.e.d).mono ?_
  rintro e w2 ⟨rfl, hd, hR⟩
  obtain ⟨r1, hr1⟩ : ∃ r, rollV L k 5 = r := ⟨_, rfl⟩
  have q1 := rollV_range L k 5 (by omega)
  rw [hr1] at q1 ⊢
  have HR2 := hid (HR.out.roll hd hR)
  generalize rollK L k = k1 at HR2
  clear hr1 hd hR HR
  go_wp2_with fail
  refine (HN.out _ _ _ (by omega) HR2.out.e.d).mono ?_
  rintro e w3 ⟨rfl, hd, hR⟩
  obtain ⟨r2, hr2⟩ : ∃ r, rollV L k1 7 = r := ⟨_, rfl⟩
  have q2 := rollV_range L k1 7 (by omega)
  rw [hr2] at q2 ⊢
  have HR3 := hid (HR2.out.roll hd hR)
  generalize rollK L k1 = k2 at HR3
  clear hr2 hd hR HR2
  go_wp2_with fail
  refine (HN.out _ _ _ (by omega) HR3.out.e.d).mono ?_
  rintro e w4 ⟨rfl, hd, hR⟩
  obtain ⟨r3, hr3⟩ : ∃ r, rollV L k2 8 = r := ⟨_, rfl⟩
  have q3 := rollV_range L k2 8 (by omega)
  rw [hr3] at q3 ⊢
  have HR4 := hid (HR3.out.roll hd hR)
  generalize rollK L k2 = k3 at HR4
  clear hr3 hd hR HR3
  have v3 : IntKind.i64.wrap (15 * r3) = 15 * r3 := IntWalk.i64_in _ (by omega)
  have v3' : IntKind.i64.wrap (480 + 15 * r3) = 480 + 15 * r3 := IntWalk.i64_in _ (by clear v3; omega)
  go_wp2_with fail
  refine (HN.out _ _ _ (by omega) HR4.out.e.d).mono ?_
  rintro e w5 ⟨rfl, hd, hR⟩
  obtain ⟨r4, hr4⟩ : ∃ r, rollV L k3 3 = r := ⟨_, rfl⟩
  have q4 := rollV_range L k3 3 (by omega)
  rw [hr4] at q4 ⊢
  have HR5 := hid (HR4.out.roll hd hR)
  generalize rollK L k3 = k4 at HR5
  clear hr4 hd hR HR4
  have v4 : IntKind.i64.wrap (15 * r4) = 15 * r4 := IntWalk.i64_in _ (by clear v3 v3'; omega)
  have v4' : IntKind.i64.wrap (30 + 15 * r4) = 30 + 15 * r4 := IntWalk.i64_in _ (by clear v3 v3' v4; omega)
  obtain ⟨x0, x1, x2, x3, _⟩ := HR5.out.r.box
  have f0 := HR5.out.r.free 0
  have f1 := HR5.out.r.free 1
  have f2 := HR5.out.r.free 2
  have f3 := HR5.out.r.free 3
  have hg := HR5.out.g0
  go_wp2_with fail
  refine bodyPost_ret (v := .agg #[.int .i64 (1 + r1), .int .i64 (2 + r2), .int .i64 (480 + 15 * r3), .int .i64 (30 + 15 * r4)]) (results_c rfl _ _ _ ⟨w.heap.size, 0, none⟩ _ rfl (load_grid (HR5.out.r.all _ _ _ _))) rfl ?_
  exact ⟨_, _, _, _, _, rfl, ⟨by omega, by omega, by clear v3 v3' v4 v4'; omega, by clear v3 v3' v4 v4'; omega⟩, (((HR5.out.e.set _ _ _ (Nat.le_refl _) hg).set _ _ _ (Nat.le_refl _) hg).set _ _ _ (Nat.le_refl _) hg).set _ _ _ (Nat.le_refl _) hg⟩
end Go.Proofs.YtigdcgklpapfbaaGreatDoor

set_option linter.unusedVariables false
namespace Go.Proofs.YtigdcgklpapfbaaGreatDoor.S10
open Go Go.Proofs Go.RowKit Go.Lib Go.Proofs.YtigdcgklpapfbaaGreatDoor

theorem allN_get (K y t : Nat) (ht : t < K) : ∀ D, y < D → (allN D K)[y * K + t]? = some ((y : Int), (t : Int))
  | 0, h => by omega
  | D + 1, h => by
    rw [allN_succ]
    by_cases hy : y < D
    · rw [List.getElem?_append_left (by
        rw [allN_len]
        have := Nat.mul_le_mul_right K (show y + 1 ≤ D from hy)
        rw [Nat.succ_mul] at this
        omega)]
      exact allN_get K y t ht D hy
    · have : y = D := by omega
      subst this
      rw [List.getElem?_append_right (by rw [allN_len]; omega), allN_len, show y * K + t - y * K = t by omega]
      simp [dayStarts, ht]
def freeC (n : Int) : ClassD := ⟨[], [], [], n, [1, 2], 0, [], [], []⟩
/-- The times of a class without starts. -/
theorem free_times {d s b m n : Int} (hg : gridB d s b m = true) (hd : 1 ≤ d) (hn : 1 ≤ n ∧ n ≤ s) :
    ((timesC d s b m (freeC n)).length : Int) = 2 * d * (s - n + 1) ∧ (timesC d s b m (freeC n))[0]? = some (1, 0, 0, n) ∧ (timesC d s b m (freeC n))[(timesC d s b m (freeC n)).length - 1]? = some (2, d - 1, s - n, n) := by
  have e : timesC d s b m (freeC n) = timesOf 1 n (allS d s n) ++ timesOf 2 n (allS d s n) := by
    unfold timesC freeC
    rw [if_pos ⟨hg, hn.1, hn.2⟩]
    simp [startsOf]
  rw [e]
  unfold allS
  obtain ⟨D, hD⟩ : ∃ D : Nat, d = ((D + 1 : Nat) : Int) := ⟨d.toNat - 1, by omega⟩
  obtain ⟨K, hK⟩ : ∃ K : Nat, s - n + 1 = ((K + 1 : Nat) : Int) := ⟨(s - n + 1).toNat - 1, by omega⟩
  rw [hD, hK, Int.toNat_natCast, Int.toNat_natCast]
  have h0 := allN_get (K + 1) 0 0 (by omega) (D + 1) (by omega)
  have h1 := allN_get (K + 1) D K (by omega) (D + 1) (by omega)
  have hl := allN_len (D + 1) (K + 1)
  have hx : (D + 1) * (K + 1) = D * (K + 1) + K + 1 := by rw [Nat.succ_mul]; omega
  refine ⟨?_, ?_, ?_⟩
  · simp only [timesOf, List.length_append, List.length_map, hl]
    rw [Int.mul_assoc]
    have : ((((D + 1) * (K + 1) : Nat) : Nat) : Int) = ((D + 1 : Nat) : Int) * ((K + 1 : Nat) : Int) := Int.natCast_mul _ _
    omega
  · rw [List.getElem?_append_left (by simp only [timesOf, List.length_map, hl]; omega)]
    simp only [Nat.zero_mul, Nat.zero_add] at h0
    simp [timesOf, h0]
  · rw [List.getElem?_append_right (by simp only [timesOf, List.length_append, List.length_map, hl]; omega)]
    simp only [timesOf, List.length_append, List.length_map, hl]
    rw [show (D + 1) * (K + 1) + (D + 1) * (K + 1) - 1 - (D + 1) * (K + 1) = D * (K + 1) + K by omega]
    rw [List.getElem?_map, h1]
    simp
    omega
theorem grid_made {d s b m : Int} (h : MadeG d s b m) : gridB d s b m = true := by
  obtain ⟨h1, h2, h3, h4⟩ := h
  have h5 : s * m ≤ 8 * 60 := Int.mul_le_mul h2.2 h4.2 (by omega) (by omega)
  refine decide_eq_true ⟨by omega, by omega, by omega, by omega, by omega⟩
theorem free_tot {d s n : Int} (hd : 1 ≤ d ∧ d ≤ 5) (hs : s ≤ 8) (hn : 1 ≤ n ∧ n ≤ s) : (freeC n).pats.length * (startsOf d s (freeC n)).length ≤ 4096 := by
  have e : startsOf d s (freeC n) = allS d s n := by simp [startsOf, freeC]
  rw [e]
  unfold allS
  rw [allN_len]
  have := Nat.mul_le_mul (show d.toNat ≤ 5 by omega) (show (s - n + 1).toNat ≤ 8 by omega)
  show 2 * _ ≤ 4096
  omega
theorem TimeRow.cell {w : World} {B : Nat} {v : Value} {l : List TimeD} (h : TimeRow w B v l) {j : Nat} {t : TimeD} (hj : l[j]? = some t) :
    ∃ g cap, v = .slice (some ⟨g, 0, none⟩) l.length cap ∧ B ≤ g ∧ g < w.heap.size ∧ l.length ≤ cap ∧ w.cell? ⟨g, j * 4, none⟩ = some (.int .i64 t.1) ∧ w.cell? ⟨g, j * 4 + 1, none⟩ = some (.int .i64 t.2.1) ∧ w.cell? ⟨g, j * 4 + 2, none⟩ = some (.int .i64 t.2.2.1) ∧ w.cell? ⟨g, j * 4 + 3, none⟩ = some (.int .i64 t.2.2.2) := by
  have h' := h
  rcases h.2 with ⟨_, h0⟩ | ⟨g, cap, cur, hv, hB, hg, hc, _⟩
  · have := (List.getElem?_eq_some_iff.1 hj).1
    omega
  · have k : ∀ i u, (timeVs t)[i]? = some u → w.cell? ⟨g, j * 4 + i, none⟩ = some u := fun i u hi => by
      have := World.ownsRow.cells h' (g := g) (by rw [hv]; rfl) (j * 4 + i) u (timeVals_get l j t hj i u hi)
      rwa [Addr.add_lit, Nat.zero_add] at this
    exact ⟨g, cap, hv, hB, (Array.getElem?_eq_some_iff.1 hg).1, hc, k 0 _ rfl, k 1 _ rfl, k 2 _ rfl, k 3 _ rfl⟩
/-- That a time is equal to itself, as the model finds it. -/
theorem eqlTime (a b c e : Int) (w : World) : (binOp .eql 66 (.agg #[.int .i64 a, .int .i64 b, .int .i64 c, .int .i64 e]) (.agg #[.int .i64 a, .int .i64 b, .int .i64 c, .int .i64 e])).run Tryz.prog w = .ok (.bool true) w := by
  have u3 := Tryz.underlying3
  have a3 := Tryz.isAgg3
  have z3 := Tryz.sizeOf3
  have hS : Tryz.prog.underlying 66 = some (.struct (Tryz.prog.fieldsOf 66)) := by kernel_rfl
  have hp : Tryz.prog.stoodInHeld 66 = false := by kernel_rfl
  rw [run_eql_struct, show (10000 : Nat) = 9999 + 1 from rfl, run_equalIn_agg w 9999 66 _ _ hS hp]
  simp only [Program.fieldsOf, Tryz.underlying66]
  go_simp
/-- What lies while the times are looked at: the grid's box, the first and the last time. -/
structure KF (w0 : World) (G g L : Nat) (d s b m n : Int) (W : World) : Prop where
  x : Box4 W G d s b m
  a : Box4 W g 1 0 0 n
  z0 : W.cell? ⟨g, L * 4, none⟩ = some (.int .i64 2)
  z1 : W.cell? ⟨g, L * 4 + 1, none⟩ = some (.int .i64 (d - 1))
  z2 : W.cell? ⟨g, L * 4 + 2, none⟩ = some (.int .i64 (s - n))
  z3 : W.cell? ⟨g, L * 4 + 3, none⟩ = some (.int .i64 n)
  b : Below w0.heap.size w0 W
theorem KF.next {w0 W W' : World} {G g L : Nat} {d s b m n : Int} (h : KF w0 G g L d s b m n W) (k : Below W.heap.size W W') : KF w0 G g L d s b m n W' :=
  ⟨h.x.next k h.x.lt, h.a.next k h.a.lt, (k.cell (p := ⟨g, L * 4, none⟩) h.a.lt).trans h.z0, (k.cell (p := ⟨g, L * 4 + 1, none⟩) h.a.lt).trans h.z1, (k.cell (p := ⟨g, L * 4 + 2, none⟩) h.a.lt).trans h.z2, (k.cell (p := ⟨g, L * 4 + 3, none⟩) h.a.lt).trans h.z3, h.b.trans (k.mono h.b.size)⟩
theorem KF.all {w0 W : World} {G g L : Nat} {d s b m n : Int} (h : KF w0 G g L d s b m n W) : W.cell? ⟨G, 0, none⟩ = some (.int .i64 d) ∧ W.cell? ⟨G, 1, none⟩ = some (.int .i64 s) ∧ W.cell? ⟨g, 0, none⟩ = some (.int .i64 1) ∧ W.cell? ⟨g, 1, none⟩ = some (.int .i64 0) ∧ W.cell? ⟨g, 2, none⟩ = some (.int .i64 0) ∧ W.cell? ⟨g, 3, none⟩ = some (.int .i64 n) ∧
    W.cell? ⟨g, L * 4, none⟩ = some (.int .i64 2) ∧ W.cell? ⟨g, L * 4 + 1, none⟩ = some (.int .i64 (d - 1)) ∧ W.cell? ⟨g, L * 4 + 2, none⟩ = some (.int .i64 (s - n)) ∧ W.cell? ⟨g, L * 4 + 3, none⟩ = some (.int .i64 n) :=
  ⟨h.x.c0, h.x.c1, h.a.c0, h.a.c1, h.a.c2, h.a.c3, h.z0, h.z1, h.z2, h.z3⟩
set_option maxHeartbeats 16000000 in
set_option maxRecDepth 100000 in
theorem free_any (A : Option Addr) (L : List Int) (c : Nat) (len : Int) (hlen : L.length ≤ 9223372036854775807) (w : World) (hE : Env7 w) (h : IntsIn w w.heap.size A L) :
    Calls Tryz.prog 7 #[.slice A L.length c, .int .i64 len] w fun e w' => e = .returned (.bool true) ∧ Below w.heap.size w w' := by
  have cL := light_any A L.length c w
  have cK := hid (fun w' (hb : Below w.heap.size w w') => awake_any w' (hE.below hb (Nat.le_refl _)))
  have cK' := cK.out
  unfold Says at cK'
  have cK := hid cK'
  clear cK'
  by_cases hl : L.length ≤ 400
  · rw [decide_eq_true hl] at cL
    have cR := hid (fun w h => roll_any A L c hl w h)
    have HI := hid h
    clear hE h
    go_enter Tryz.func7, Tryz.ntmps7
    go_wp2_with fail
    refine cL.mono ?_
    rintro e w' ⟨rfl, rfl⟩
    go_wp2_with fail
    refine (cR.out _ HI.out).mono ?_
    rintro e w1 ⟨rfl, hd1, hb1⟩
    have hgl := hd1.lt
    have HB : Hid (∀ W k, DE w1 w.heap.size c A L k W → Below w.heap.size w W) := hid (fun W k he => hb1.trans (he.toBelow (Nat.le_of_lt hgl) (Nat.le_refl _)))
    have cG := hid (grid_any w.heap.size c 0 A L w1 hd1)
    clear hd1 hb1 cL cR HI
    go_wp2_with fail
    refine cG.out.mono ?_
    rintro e w2 ⟨d, s, b, m, k2, rfl, hmg, he2⟩
    have HB2 := hid (HB.out _ _ he2)
    have HMG := hid hmg
    have g1 : 1 ≤ d ∧ d ≤ 5 := hmg.1
    have g2 : 2 ≤ s ∧ s ≤ 8 := hmg.2.1
    have hx := Box4.new w2 d s b m 24
    have hb3 := HB2.out.trans (((Below.refl w2.heap.size w2).alloc (Nat.le_refl _) (.cells #[.int .i64 d, .int .i64 s, .int .i64 b, .int .i64 m] 24)).mono HB2.out.size)
    obtain ⟨g0', g1', g2', g3', gl⟩ := hx
    have HX : Hid (Box4 (w2.alloc (.cells #[.int .i64 d, .int .i64 s, .int .i64 b, .int .i64 m] 24)) w2.heap.size d s b m) := hid ⟨g0', g1', g2', g3', gl⟩
    have HB3 := hid hb3
    obtain ⟨v, hv⟩ : ∃ v, modI len s = v := ⟨_, rfl⟩
    have hvr := modI_range len s (by omega)
    have cV := fun w => mod_any len s (by omega) w
    rw [hv] at cV hvr
    obtain ⟨n, hn⟩ : ∃ n, 1 + v = n := ⟨_, rfl⟩
    have hnr : 1 ≤ n ∧ n ≤ s := by omega
    have hw1 : IntKind.i64.wrap (1 + v) = n := by rw [IntWalk.i64_in _ (by omega)]; exact hn
    have CV := hid cV
    clear he2 cG hmg hb3 cV hv hn
    go_wp2_with fail
    generalize w2.alloc (.cells #[.int .i64 d, .int .i64 s, .int .i64 b, .int .i64 m] 24) = w3 at HX HB3 g0' g1' g2' g3' gl ⊢
    refine (CV.out w3).mono ?_
    rintro e w4 ⟨rfl, rfl⟩
    generalize w2.heap.size = GB at HX g0' g1' g2' g3' gl ⊢
    have hb5 := (Below.refl w3.heap.size w3).alloc (Nat.le_refl _) (.cells #[.int .i64 1, .int .i64 2] 3)
    have hx5 := HX.out.next hb5 gl
    have hcl : ClassIn (w3.alloc (.cells #[.int .i64 1, .int .i64 2] 3)) (fun k => k < (w3.alloc (.cells #[.int .i64 1, .int .i64 2] 3)).heap.size) (freeC n) ⟨some ⟨w3.heap.size, 0, none⟩, 2, none, 0, none, 0, none, 0⟩ := by
      refine ⟨.inr ⟨w3.heap.size, 0, rfl, by simp, fun i u hu => ?_⟩, .inl rfl, .inl rfl, FlatIn.nil _ _ _, Nat.le_refl 2, show (2 : Nat) ≤ 9223372036854775807 by omega, Nat.le_refl 0, Nat.zero_le _, Nat.le_refl 0, Nat.zero_le _, Nat.le_refl 0, Nat.zero_le _⟩
      rw [Lib.cell_of_heap (heap_alloc_new w3 _), Nat.zero_add]
      match i, hu with
      | 0, hu => exact hu
      | 1, hu => exact hu
      | i + 2, hu => simp [freeC, intVals] at hu
    have cT := times_any d s b m (freeC n) _ _ hcl (free_tot g1 g2.2 hnr)
    obtain ⟨f1, f2, f3⟩ := free_times (grid_made HMG.out) g1.1 hnr
    unfold clsV at cT
    obtain ⟨TL, hTL⟩ : ∃ TL, timesC d s b m (freeC n) = TL := ⟨_, rfl⟩
    rw [hTL] at cT f1 f2 f3
    have CT := hid cT
    have HX5 := hid hx5
    have HB5 := hid (HB3.out.trans (hb5.mono HB3.out.size))
    have F2 := hid f2
    have F3 := hid f3
    have F1 := hid f1
    obtain ⟨y0, y1, y2, y3, yl⟩ := hx5
    clear cT hcl hTL f1 f2 f3 hb5 g0' g1' g2' g3' CV
    go_wp2_with fail
    generalize w3.alloc (.cells #[.int .i64 1, .int .i64 2] 3) = w5 at CT HX5 HB5 y0 y1 y2 y3 yl ⊢
    refine CT.out.mono ?_
    rintro e w6 ⟨⟨v6, rfl, hrow⟩, hb6⟩
    obtain ⟨g, cap, rfl, hBg, hgl6, hcap, a0, a1, a2, a3⟩ := TimeRow.cell hrow F2.out
    obtain ⟨g', cap', hv', _, _, _, z0, z1, z2, z3⟩ := TimeRow.cell hrow F3.out
    injection hv' with hA _ hcp
    injection hA with hA
    injection hA with hA _ _
    subst hA hcp
    obtain ⟨N, hN⟩ : ∃ N, TL.length = N := ⟨_, rfl⟩
    have f1 := F1.out
    have hpos := (List.getElem?_eq_some_iff.1 F2.out).1
    rw [hN] at f1 hcap z0 z1 z2 z3 hpos
    simp only [Nat.zero_mul, Nat.zero_add] at a0 a1 a2 a3
    rw [hN]
    have hK : KF w GB g (N - 1) d s b m n w6 := ⟨HX5.out.next hb6 yl, ⟨a0, a1, a2, a3, hgl6⟩, z0, z1, z2, z3, HB5.out.trans (hb6.mono HB5.out.size)⟩
    have hk' := hK
    clear hrow hb6 a0 a1 a2 a3 z0 z1 z2 z3 hN F1 F2 F3 CT HX5 HB5 y0 y1 y2 y3 yl hBg hgl6 hK
    obtain ⟨P, hP⟩ : ∃ P, N - 1 = P := ⟨_, rfl⟩
    have hPN : (N : Int) - 1 = (P : Int) := by omega
    rw [hP] at hk'
    have hKr : 1 ≤ s - n + 1 ∧ s - n + 1 ≤ 8 := by omega
    have hN80 : 2 * d * (s - n + 1) ≤ 10 * 8 := Int.mul_le_mul (by omega) hKr.2 (by omega) (by omega)
    have hN0 : 0 ≤ 2 * d * (s - n + 1) := Int.mul_nonneg (by omega) (by omega)
    have q1 : IntKind.i64.wrap (2 * d) = 2 * d := IntWalk.i64_in _ (by omega)
    have q2 : IntKind.i64.wrap (s - n) = s - n := IntWalk.i64_in _ (by omega)
    have q3 : IntKind.i64.wrap (s - n + 1) = s - n + 1 := IntWalk.i64_in _ (by omega)
    have q4 : IntKind.i64.wrap (2 * d * (s - n + 1)) = (N : Int) := by rw [IntWalk.i64_in _ (by omega)]; omega
    have q5 : IntKind.i64.wrap ((N : Int) - 1) = (P : Int) := by rw [IntWalk.i64_in _ (by omega)]; omega
    have q6 : IntKind.i64.wrap (d - 1) = d - 1 := IntWalk.i64_in _ (by omega)
    have e1 := fun w => eqlTime 1 0 0 n w
    have e2 := fun w => eqlTime 2 (d - 1) (s - n) n w
    have hlt : (P : Int) < (N : Int) := by omega
    have h0P : (0 : Int) ≤ (P : Int) := by omega
    have h0N : (0 : Int) < (N : Int) := by omega
    have h0n : 0 < N := by omega
    have hltn : P < N := by omega
    obtain ⟨G0, G1, A0, A1, A2, A3, Z0, Z1, Z2, Z3⟩ := hk'.all
    have CK := cK
    clear cK f1 hN80 hN0 hKr hpos HMG HB HB2 HB3 HX hP hPN
    go_upto_region 6 with fail
    go_region_held3 (fun w' => w'.cell? ⟨GB, 0, none⟩ = some (.int .i64 d) ∧ w'.cell? ⟨GB, 1, none⟩ = some (.int .i64 s) ∧ w'.cell? ⟨g, 0, none⟩ = some (.int .i64 1) ∧ w'.cell? ⟨g, 1, none⟩ = some (.int .i64 0) ∧ w'.cell? ⟨g, 2, none⟩ = some (.int .i64 0) ∧ w'.cell? ⟨g, 3, none⟩ = some (.int .i64 n) ∧
      w'.cell? ⟨g, P * 4, none⟩ = some (.int .i64 2) ∧ w'.cell? ⟨g, P * 4 + 1, none⟩ = some (.int .i64 (d - 1)) ∧ w'.cell? ⟨g, P * 4 + 2, none⟩ = some (.int .i64 (s - n)) ∧ w'.cell? ⟨g, P * 4 + 3, none⟩ = some (.int .i64 n))
      (first | with_reducible exact hk'.all | exact (hk'.next (Below.refl _ _).drew).all)
      (first
        | (go_at_call 15; (refine (CK.out _ (hk'.next (Below.refl _ _).drew).b).mono ?_); rintro e wq ⟨rfl, hbq⟩; have hk' := (hk'.next (Below.refl _ _).drew).next hbq))
    all_goals
      go_wp2
      go_ret
      exact ⟨rfl, hk'.b⟩
  · rw [decide_eq_false hl] at cL
    have HI := hid h
    clear hE h
    have cK0 := cK.out w (Below.refl _ _)
    have CK0 := hid cK0
    clear cK0
    go_enter Tryz.func7, Tryz.ntmps7
    go_wp2_with fail
    refine cL.mono ?_
    rintro e w' ⟨rfl, rfl⟩
    go_wp2_with fail
    refine CK0.out.mono ?_
    rintro e w1 ⟨rfl, hb⟩
    have HB := hid hb
    clear hb
    go_wp2
    go_ret
    exact ⟨rfl, HB.out⟩
end Go.Proofs.YtigdcgklpapfbaaGreatDoor.S10

set_option linter.unusedVariables false
set_option maxRecDepth 100000
namespace Go.Proofs.YtigdcgklpapfbaaGreatDoor
open Go Go.Proofs Go.ChangeShapes Go.WideShapes Go.ChangeAt Go.RowKit

theorem cells3 : Tryz.prog.cellsOf 3 = 1 := by kernel_rfl
section
variable {H : Type} {enc : TypeId × Value → H}
theorem open_intcells {W : World} {fuel : Nat} {v : Value} {x : DataW H × List MemPlace} (hf : DataW.trod enc Tryz.prog W 0 (fun _ => true) true fuel 29 [v] = some x) :
    ∃ A L c, v = .slice A (List.length L) c ∧ IntsIn W W.heap.size A L ∧ L.length ≤ 9223372036854775807 := by
  rcases open_ints Tryz.underlying29 Tryz.underlying3 cells3 hf with ⟨hcs, _⟩ | ⟨a, len, cap, zs, hcs, _, hl, hm, hz, _, hcell, hwz⟩
  · simp at hcs
    subst hcs
    exact ⟨none, [], 0, rfl, .inl rfl, by simp⟩
  · simp at hcs
    subst hcs
    have hz' : zs.length = cap := by simpa using hz
    refine ⟨some a, zs.take len, cap, ?_, ?_, ?_⟩
    · rw [List.length_take, Nat.min_eq_left (by omega)]
    · rcases Nat.eq_zero_or_pos len with h0 | h0
      · subst h0; exact .inl (by simp)
      · obtain ⟨b, off, rfl, hc⟩ := ints_at hcell (by omega)
        refine .inr ⟨b, off, rfl, World.block_lt_of_cell? W _ (hc 0 (by omega)), fun j u hu => ?_⟩
        have hj : j < len := by
          have := (List.getElem?_eq_some_iff.1 hu).1
          simp at this
          omega
        rw [hc j (by omega)]
        rw [List.getElem?_take, if_pos hj, List.getElem?_eq_getElem (by omega)] at hu
        simp only [Option.some.injEq] at hu
        subst hu
        have e : zs.getD j 0 = zs[j] := by simp [List.getD, List.getElem?_eq_getElem (show j < zs.length by omega)]
        rw [e]
    · unfold maxLen at hm
      rw [List.length_take]
      omega
theorem open_intlist {W : World} {base : Nat} {v : Value} {d : DataW H} {p : List MemPlace} (hv : Value.okWide Tryz.prog W .any base 29 v) (h : DataW.Trod enc Tryz.prog W 0 (fun _ => true) true 29 v d p) :
    ∃ A L c, v = .slice A (List.length L) c ∧ IntsIn W W.heap.size A L ∧ L.length ≤ 9223372036854775807 := by
  obtain ⟨a0, len, cap, rfl⟩ := okWide_slice Tryz.underlying29 hv
  obtain ⟨fuel, hf⟩ := h
  exact open_intcells hf
end
end Go.Proofs.YtigdcgklpapfbaaGreatDoor

