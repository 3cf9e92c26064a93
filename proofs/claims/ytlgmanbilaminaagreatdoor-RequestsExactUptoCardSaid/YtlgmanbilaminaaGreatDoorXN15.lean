/-
  Students: the different students of requests, in natural order. Conditions: the requests lie in memory; the texts fit into memory.
-/
import Derived.Test.YtlgmanbilaminaaGreatDoorXN01
import Derived.Test.YtlgmanbilaminaaGreatDoorXN02
import Derived.Test.YtlgmanbilaminaaGreatDoorXN03
import Derived.Test.YtlgmanbilaminaaGreatDoorXN04
import Derived.Test.YtlgmanbilaminaaGreatDoorXN05
import Derived.Test.YtlgmanbilaminaaGreatDoorXN06
import Derived.Test.YtlgmanbilaminaaGreatDoorXN07
import Derived.Test.YtlgmanbilaminaaGreatDoorXN08
import Derived.Test.YtlgmanbilaminaaGreatDoorXN09
import Derived.Test.YtlgmanbilaminaaGreatDoorXN11
import Derived.Test.YtlgmanbilaminaaGreatDoorXN12
import Derived.Test.YtlgmanbilaminaaGreatDoorXN13
import Derived.Test.YtlgmanbilaminaaGreatDoorXN14
import Derived.Test.YtlgmanbilaminaaGreatDoorProg
import Derived.WalkKit
import Derived.WalkSpells
import Derived.WalkLawsBesides
import Derived.Lib.Hide
import Derived.Deep.QuietTactic
import Derived.BigQuiet
import Derived.Laws.Rows
import Derived.OwnWalk
import Derived.Lib.BufferWrite
import Derived.Lib.UnsafeStr
import Derived.Laws.IdiomStrings
import Derived.Laws.BytesArg
import Derived.Laws.BytesString
import Derived.Laws.OwnMore
import Derived.Lib.IndexLaws
import Derived.Lib.ItoaNum
import Derived.Lib.Atoi
import Derived.Lib.Bytealg
import Derived.Maps.OwnSet
import Derived.Maps.Range
import Derived.Shelf.Abstract
import Derived.DeepKeys4
import Derived.Handy
import Derived.RangeFuncNested
import Derived.RangeFuncBound
import Derived.RangeFuncCalls
import Derived.RangeFuncLeaves
import Derived.Shelf.RegionOpen
import Derived.OwnWalkIn
import Derived.Lib.SlTrimSet
import Derived.Shelf.Strings.Builder1
import Derived.Shelf.Strings.Builder2
import Derived.Shelf.Strings.OnBuilder
import Derived.Shelf.Strings.Trim
import Derived.Shelf.Small.Utf8
import Derived.Shelf.Small.Bits
import Derived.Shelf.Small.Strs
import Derived.Shelf.Small.Wraps
import Derived.Shelf.Strings.BuilderF
import Derived.Shelf.Strings.BuilderK
import Derived.Shelf.Strings.Builder2Cap
import Derived.Shelf.Strconv.Atoi
import Derived.Shelf.Strconv.Itoa0
import Derived.Shelf.Strconv.Itoa1
import Derived.Shelf.LaysM
import Derived.Shelf.Strconv.Itoa2
import Derived.Shelf.Strconv.Itoa3
import Derived.Shelf.Strconv.AtoiErrFast
import Derived.Shelf.Strconv.ParseIntEmpty
import Derived.Shelf.Strconv.AtoiFail
import Derived.Shelf.Strconv.Clone
import Derived.Shelf.Strconv.SyntaxError
import Derived.Shelf.LaysC
import Derived.Shelf.Strconv.ToError
import Derived.Shelf.Strconv.AtoiErr
import Derived.Shelf.Strings.Search1
import Derived.Shelf.Strings.Search2
import Derived.Shelf.Strings.Search3
import Derived.Shelf.Strings.Cut
import Derived.Shelf.Strings.Shaped
import Derived.Shelf.Strings.Prefix
import Derived.Shelf.Strings.Runes
import Derived.Shelf.Strings.AsciiSet
import Derived.Shelf.Bits.Mul64
import Derived.Shelf.Strings.Repeat
import Derived.Shelf.Unicode.DecodeSlow
import Derived.Shelf.Strings.BuilderCap
import Derived.Shelf.Slices.Turned
import Derived.Ground.Names2Prog
import Derived.Shelf.Slices.Clone
import Derived.Ground.SlsfProg
import Derived.Shelf.SlSortCmp.Insertion
import Derived.Shelf.SlSortCmp.SiftDown1
import Derived.Shelf.SlSortCmp.HeapSort1
import Derived.Shelf.SlSortCmp.Insertion1
import Derived.Shelf.SlSortCmp.Median1
import Derived.Shelf.SlSortCmp.Pivot1
import Derived.Shelf.SlSortCmp.ReverseRange1
import Derived.Shelf.SlSortCmp.PartialInsertion1
import Derived.Shelf.SlSortCmp.PartitionEqual1
import Derived.Shelf.SlSortCmp.Partition1
import Derived.Shelf.SlSortCmp.Pdq1
import Derived.Shelf.SlSortCmp.Whole1
import Derived.Shelf.SlSortCmp.NoneTotal
import Derived.Shelf.Strings.SlTrimAscii
import Derived.Lib.AtoiErrMem
import Derived.Laws.ResultCell
import Derived.RegionTactic
import Derived.Lib.Repeat
import Derived.Deep.RegionHeld3
import Derived.Lib.SlicesS
import Derived.TacticsInMore
import Derived.LoopNIn
import Derived.LoopIn
import Derived.Laws.BitsAllLaws
import Derived.Laws.BitsLemmas
import Derived.Deep.MidRow
import Derived.Deep.DeepCutAuto
import Derived.Lib.Join
import Derived.Laws.Concat
import Derived.Maps.OwnOps
import Derived.Maps.Ext
import Derived.Lib.QuietBelow
import Derived.Shelf.SlGeneric
import Derived.Maps.AppendAt
import Derived.Maps.RangeWalk
import Derived.Sort.KeysCollected
import Derived.Sort.OwnSorted
set_option linter.unusedVariables false
namespace Go.Proofs.YtlgmanbilaminaaGreatDoor.S12
open Go Go.Proofs Go.RowKit Go.Lib Go.Sort Go.Proofs.YtlgmanbilaminaaGreatDoor
open Go.Maps (Keyed string_keyed)
open Go.WideMaps (keyOf_string_mk)
def leS (a b : Str) : Bool := decide (S3.cmpM a b ≤ 0)
theorem cmp_le_trans {a b c : Str} (h1 : S3.cmpM a b ≤ 0) (h2 : S3.cmpM b c ≤ 0) : S3.cmpM a c ≤ 0 := S3.cmpM_tot.trans a b c h1 h2
theorem cmp_swap (a b : Str) : S3.cmpM b a = - S3.cmpM a b := S3.cmpM_tot.swap a b
theorem cmp_anti {a b : Str} (h1 : S3.cmpM a b ≤ 0) (h2 : S3.cmpM b a ≤ 0) : a = b := (S3.cmpM_zero a b).1 (by have := cmp_swap a b; omega)
theorem leS_trans (a b c : Str) (h1 : leS a b = true) (h2 : leS b c = true) : leS a c = true := decide_eq_true (cmp_le_trans (of_decide_eq_true h1) (of_decide_eq_true h2))
theorem leS_total (a b : Str) : (leS a b || leS b a) = true := by
  unfold leS
  rw [Bool.or_eq_true, decide_eq_true_eq, decide_eq_true_eq, cmp_swap a b]
  omega
theorem leS_anti {a b : Str} (h1 : leS a b = true) (h2 : leS b a = true) : a = b := cmp_anti (of_decide_eq_true h1) (of_decide_eq_true h2)
theorem leS_unique {l l' : List Str} (hp : l.Perm l') (h1 : l.Pairwise (fun a b => leS a b = true)) (h2 : l'.Pairwise (fun a b => leS a b = true)) : l = l' :=
  List.Perm.eq_of_pairwise (le := fun a b => leS a b = true) (fun a b _ _ k1 k2 => leS_anti k1 k2) h1 h2 hp
def studM (l : List ReqD) : List Str := (studs l).mergeSort leS
theorem studM_sorted (l : List ReqD) : (studM l).Pairwise (fun a b => leS a b = true) := List.pairwise_mergeSort leS_trans leS_total _
theorem studM_perm (l : List ReqD) : (studM l).Perm (studs l) := List.mergeSort_perm _ _
theorem studM_unique {l : List ReqD} {ss : List Str} (hp : ss.Perm (studs l)) (h : ss.Pairwise (fun a b => leS a b = true)) : ss = studM l := leS_unique (hp.trans (studM_perm l).symm) h (studM_sorted l)
abbrev BStr := { s : Str // s.length ≤ maxLen }
instance : Inhabited BStr := ⟨⟨[], Nat.zero_le _⟩⟩
def encB (x : BStr) : Value := .string ⟨x.1.toArray⟩
def cfB (x y : BStr) : Int := S3.cmpM x.1 y.1
theorem swoB : SWO (ltOf cfB) := by
  refine ⟨fun x => ?_, fun x y z h1 h2 => ?_, fun x y z h1 h2 => ?_⟩
  · have := (S3.cmpM_zero x.1 x.1).2 rfl
    unfold ltOf cfB
    rw [this]; rfl
  · unfold ltOf cfB at *
    rw [decide_eq_true_eq] at *
    have h3 := cmp_le_trans (a := x.1) (b := y.1) (c := z.1) (by omega) (by omega)
    by_cases h4 : S3.cmpM x.1 z.1 = 0
    · have e := (S3.cmpM_zero _ _).1 h4
      rw [e] at h1
      have := cmp_swap y.1 z.1
      omega
    · omega
  · unfold ltOf cfB at *
    rw [decide_eq_false_iff_not] at *
    have h3 := cmp_le_trans (a := z.1) (b := y.1) (c := x.1) (by rw [cmp_swap y.1 z.1]; omega) (by rw [cmp_swap x.1 y.1]; omega)
    rw [cmp_swap x.1 z.1] at h3
    omega
theorem totB (x y : BStr) (h1 : ltOf cfB x y = false) (h2 : ltOf cfB y x = false) : x = y := by
  unfold ltOf cfB at *
  rw [decide_eq_false_iff_not] at *
  exact Subtype.ext (cmp_anti (by rw [cmp_swap y.1 x.1]; omega) (by rw [cmp_swap x.1 y.1]; omega))
theorem heap_putE {α : Type} [Inhabited α] {enc : α → Value} {w : World} {g n : Nat} {os : Array Obj} {cur : Array Value} {e : TypeId} {fr : Nat × Nat} (d : Array α) (hb : w.heap[g]? = some (.cells cur e fr)) :
    (grow (putRow enc (Sort.ahead w n) g 0 d) os).heap[g]? = some (.cells (putCells enc 0 d cur) e fr) := by
  have hg : g < w.heap.size := (Array.getElem?_eq_some_iff.1 hb).1
  rw [Go.Sort.heap_grow_old _ _ (by simpa [putRow, Go.Sort.mapBlock, Sort.ahead] using hg)]
  simp [putRow, Go.Sort.mapBlock, Sort.ahead, Array.getElem?_modify, hb, Go.Sort.onCells]
theorem grownBy_putE {α : Type} [Inhabited α] {enc : α → Value} {w : World} {g n : Nat} {os : Array Obj} (d : Array α) : w.grownBy (grow (putRow enc (Sort.ahead w n) g 0 d) os) (some g) := by
  refine ⟨rfl, rfl, rfl, by simp [putRow, Go.Sort.mapBlock, Sort.ahead], fun k hk hne => ?_⟩
  rw [Go.Sort.heap_grow_old _ _ (by simpa [putRow, Go.Sort.mapBlock, Sort.ahead] using hk)]
  have : g ≠ k := fun e => hne (by rw [e])
  simp [putRow, Go.Sort.mapBlock, Sort.ahead, Array.getElem?_modify, this]
theorem take_putE {α : Type} [Inhabited α] {enc : α → Value} (cur : Array Value) (ts : List α) (h : ts.length ≤ cur.size) : (putCells enc 0 ts.toArray cur).toList.take ts.length = ts.map enc := by
  apply List.ext_getElem?
  intro j
  by_cases hj : j < ts.length
  · rw [List.getElem?_take_of_lt hj, Array.getElem?_toList]
    simp [putCells, hj, show j < cur.size by omega]
  · rw [List.getElem?_take_eq_none (by omega), List.getElem?_eq_none (by simp; omega)]
theorem holdsB {w : World} {g : Nat} {cur : Array Value} {e : TypeId} {l : List BStr} (hb : w.heap[g]? = some (.cells cur e (0, 0))) (ht : cur.toList.take l.length = l.map encB) : Holds encB w g 0 l.toArray := by
  intro j hj
  have hj' : j < l.length := by simpa using hj
  refine ⟨?_, by simp [World.frozen?, hb]⟩
  have h1 : (cur.toList.take l.length)[j]? = (l.map encB)[j]? := by rw [ht]
  rw [List.getElem?_take_of_lt hj'] at h1
  simp only [World.cell?, hb, Nat.zero_add]
  simp only [Option.isSome_none, Bool.false_eq_true, if_false]
  rw [← Array.getElem?_toList, h1]
  simp [hj']
theorem lift_strs : ∀ (l : List Str), (∀ s ∈ l, s.length ≤ maxLen) → ∃ L : List BStr, L.map (·.1) = l
  | [], _ => ⟨[], rfl⟩
  | s :: r, h => by
    obtain ⟨L, hL⟩ := lift_strs r (fun t ht => h t (by simp [ht]))
    exact ⟨⟨s, h s (by simp)⟩ :: L, by rw [List.map_cons, hL]⟩
theorem encB_map (L : List BStr) : L.map encB = S3.strVals (L.map (·.1)) := by
  unfold S3.strVals
  rw [List.map_map]
  rfl
theorem sort_map (L : List BStr) : (L.mergeSort fun x y => !(ltOf cfB) y x).map (·.1) = (L.map (·.1)).mergeSort leS := by
  refine leS_unique ?_ ?_ (List.pairwise_mergeSort leS_trans leS_total _)
  · exact ((List.mergeSort_perm L _).map _).trans (List.mergeSort_perm _ _).symm
  · rw [List.pairwise_map]
    have h := List.pairwise_mergeSort (le := fun x y : BStr => !(ltOf cfB) y x) (fun a b c h1 h2 => by
      simp only [Bool.not_eq_true'] at *
      exact swoB.ntrans _ _ _ h2 h1) (fun a b => by
      simp only [Bool.or_eq_true, Bool.not_eq_true']
      unfold ltOf cfB
      rw [decide_eq_false_iff_not, decide_eq_false_iff_not, cmp_swap a.1 b.1]
      omega) L
    refine h.imp (fun {a b} hab => ?_)
    simp only [Bool.not_eq_true'] at hab
    unfold ltOf cfB at hab
    rw [decide_eq_false_iff_not] at hab
    unfold leS
    rw [decide_eq_true_eq, cmp_swap b.1 a.1]
    omega
set_option maxHeartbeats 1000000 in
theorem sortRow_any (v : Value) (l : List Str) (B : Nat) (w : World) (h : S3.StrRow w B v l) (hB : B ≤ w.heap.size) (hl : l.length ≤ 4611686018427387000) (hs : ∀ s ∈ l, s.length ≤ maxLen) :
    Calls Tryz.prog 47 #[v, .func (.func 48) #[] #[]] w fun e w' => e = .returned (.tuple #[]) ∧ S3.StrRow w' B v (l.mergeSort leS) ∧ Below B w w' := by
  have h' := h
  have eg : ∀ args w, (callFunc 48 args).run Tryz.prog w = .ok (.enter 48 args) w := enters_of Tryz.func48 (by kernel_rfl) rfl
  obtain ⟨L, hL⟩ := lift_strs l hs
  have hLl : L.length = l.length := by rw [← hL, List.length_map]
  rcases h.2 with ⟨hv, h0⟩ | ⟨g, cap, cur, hv, hg0, hg, h1, h2, h3, h4⟩
  · have hl : l = [] := List.eq_nil_of_length_eq_zero h0
    subst hl
    subst hv
    refine (AnyF.slices_SortFunc_none (P := Tryz.prog) (ρ := Tryz.sortStrs_ren) { Tryz.sortStrs with } none 0 _ w).mono ?_
    rintro e w' ⟨rfl, rfl⟩
    exact ⟨rfl, by rw [show ([] : List Str).mergeSort leS = [] by simp]; exact h', Below.refl _ _⟩
  · subst hv
    have hlt := (Array.getElem?_eq_some_iff.1 hg).1
    have ht : cur.toList.take L.length = L.map encB := by rw [hLl, encB_map, hL]; have h5 := h4; rw [Nat.mul_one] at h5; exact h5
    have hH := holdsB (l := L) hg ht
    have hcon := Any.slices_SortFunc_total Tryz.sortStrs encB (fun x => rfl) cfB swoB 48 #[] g 0 cap L.toArray w eg
      (fun _ _ _ _ x y => (compare_any ⟨x.1.toArray⟩ ⟨y.1.toArray⟩ (by have := x.2; unfold maxLen at this; rw [Lib.size_eq]; simpa using (by omega : x.1.length ≤ 9223372036854775807)) (by have := y.2; unfold maxLen at this; rw [Lib.size_eq]; simpa using (by omega : y.1.length ≤ 9223372036854775807)) _).mono fun e w' ⟨h1, h2⟩ => ⟨h1, grw_grown h2⟩) hH hlt (by simp; omega) totB
    have hcon2 : Calls Tryz.prog 47 #[.slice (some ⟨g, 0, none⟩) l.length cap, .func (.func 48) #[] #[]] w fun e w' => e = .returned (.tuple #[]) ∧ ∃ n os, w' = sortWorld encB w g 0 n (L.mergeSort fun x y => !(ltOf cfB) y x).toArray os := by rw [← hLl]; exact hcon
    refine hcon2.mono ?_
    rintro e w' ⟨rfl, n, os, rfl⟩
    have hsl : (L.mergeSort fun x y => !(ltOf cfB) y x).length = l.length := by rw [List.length_mergeSort, hLl]
    have hml : (l.mergeSort leS).length = l.length := List.length_mergeSort _
    unfold sortWorld
    refine ⟨rfl, ?_, (Below.refl _ w).grown (grownBy_putE _) hB (fun k hk => by injection hk; omega)⟩
    unfold S3.StrRow
    rw [hml]
    refine ⟨by rw [S3.strVals_len, hml, Nat.mul_one], .inr ⟨g, cap, _, rfl, hg0, heap_putE _ hg, h1, h2, by simp [putCells, h3], ?_⟩⟩
    rw [Nat.mul_one, ← hsl, take_putE cur _ (by rw [hsl]; omega), encB_map, sort_map, hL]
end Go.Proofs.YtlgmanbilaminaaGreatDoor.S12
