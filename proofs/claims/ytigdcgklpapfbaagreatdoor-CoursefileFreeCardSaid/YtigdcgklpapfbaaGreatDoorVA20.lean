/-
  Sorting starts: compareStarts, slices.SortFunc at starts of the call's own. Condition: at most 1000 starts.
  Reading sets of weeks: hasEqual at ints, the closure that reads a part, readPatterns. Conditions: the variables hold what their text lays; the text is below 2^32 bytes.
-/
import Derived.Test.YtigdcgklpapfbaaGreatDoorVA01
import Derived.Test.YtigdcgklpapfbaaGreatDoorVA02
import Derived.Test.YtigdcgklpapfbaaGreatDoorVA03
import Derived.Test.YtigdcgklpapfbaaGreatDoorVA04
import Derived.Test.YtigdcgklpapfbaaGreatDoorVA05
import Derived.Test.YtigdcgklpapfbaaGreatDoorVA06
import Derived.Test.YtigdcgklpapfbaaGreatDoorVA07
import Derived.Test.YtigdcgklpapfbaaGreatDoorVA08
import Derived.Test.YtigdcgklpapfbaaGreatDoorVA09
import Derived.Test.YtigdcgklpapfbaaGreatDoorVA10
import Derived.Test.YtigdcgklpapfbaaGreatDoorVA11
import Derived.Test.YtigdcgklpapfbaaGreatDoorVA12
import Derived.Test.YtigdcgklpapfbaaGreatDoorVA13
import Derived.Test.YtigdcgklpapfbaaGreatDoorVA14
import Derived.Test.YtigdcgklpapfbaaGreatDoorVA17
import Derived.Test.YtigdcgklpapfbaaGreatDoorVA18
import Derived.Test.YtigdcgklpapfbaaGreatDoorVA19
import Derived.Test.YtigdcgklpapfbaaGreatDoorProg
import Derived.WalkKit
import Derived.WalkSpells
import Derived.WalkLawsBesides
import Derived.Lib.Hide
import Derived.Deep.QuietTactic
import Derived.BigQuiet
import Derived.Laws.Rows
import Derived.OwnWalk
import Derived.Lib.BufferWrite
import Derived.Lib.UnsafeStr
import Derived.Laws.IdiomStrings
import Derived.Laws.BytesArg
import Derived.Laws.BytesString
import Derived.Laws.OwnMore
import Derived.Lib.IndexLaws
import Derived.Lib.ItoaNum
import Derived.Lib.Atoi
import Derived.Laws.BitsAllLaws
import Derived.Laws.BitsLemmas
import Derived.Deep.MidRow
import Derived.Shelf.Strings.Builder1
import Derived.Shelf.Strings.Builder2
import Derived.Shelf.Strings.OnBuilder
import Derived.Shelf.Strings.Trim
import Derived.Shelf.Small.Bits
import Derived.Shelf.Small.Strs
import Derived.Shelf.Small.Wraps
import Derived.Shelf.Strings.BuilderF
import Derived.Shelf.Strings.BuilderK
import Derived.Shelf.Strings.Builder2Cap
import Derived.Shelf.Strconv.Atoi
import Derived.Shelf.Strconv.Itoa0
import Derived.Shelf.Strconv.Itoa1
import Derived.Shelf.LaysM
import Derived.Shelf.Strconv.Itoa2
import Derived.Shelf.Strconv.Itoa3
import Derived.Shelf.Strconv.AtoiErrFast
import Derived.Shelf.Strconv.ParseIntEmpty
import Derived.Shelf.Strconv.AtoiFail
import Derived.Shelf.Strconv.Clone
import Derived.Shelf.Strconv.SyntaxError
import Derived.Shelf.LaysC
import Derived.Shelf.Strconv.ToError
import Derived.Shelf.Strconv.AtoiErr
import Derived.Shelf.Strings.Search1
import Derived.Shelf.Strings.Search2
import Derived.Shelf.Strings.Search3
import Derived.Shelf.Strings.Cut
import Derived.Shelf.Strings.Shaped
import Derived.Shelf.Strings.Prefix
import Derived.Shelf.Strings.Runes
import Derived.Shelf.Strings.AsciiSet
import Derived.Shelf.Bits.Mul64
import Derived.Shelf.Strings.Repeat
import Derived.Shelf.Unicode.DecodeSlow
import Derived.Shelf.Strings.BuilderCap
import Derived.Shelf.Slices.Turned
import Derived.Ground.SlgfProg
import Derived.Shelf.SlicesE.IndexFunc
import Derived.Lib.AtoiErrMem
import Derived.Handy
import Derived.RangeFuncNested
import Derived.RangeFuncBound
import Derived.RangeFuncCalls
import Derived.RangeFuncLeaves
import Derived.Shelf.Abstract
import Derived.Shelf.RegionOpen
import Derived.OwnWalkIn
import Derived.Lib.Bytealg
import Derived.Lib.SlTrimSet
import Derived.Shelf.Strings.SlTrimAscii
import Derived.Laws.ResultCell
import Derived.RegionTactic
import Derived.Lib.Repeat
import Derived.Deep.RegionHeld3
import Derived.Lib.SlicesS
import Derived.TacticsInMore
import Derived.LoopNIn
import Derived.LoopIn
import Derived.Deep.DeepCutAuto
import Derived.Lib.Join
import Derived.Laws.Concat
import Derived.Maps.OwnSet
import Derived.Maps.Range
import Derived.Sort.EncStr
import Derived.Deep.RegionLaw
import Derived.Sort.Grow
import Derived.Shelf.SlGeneric
import Derived.Shelf.SlSortCmp.NoneTotal
import Derived.Ground.SlsfProg
import Derived.Sort.OwnSorted
import Derived.RangeFuncBox
set_option linter.unusedVariables false
namespace Go.Proofs.YtigdcgklpapfbaaGreatDoor.S10
open Go Go.Proofs Go.RowKit Go.Lib Go.Proofs.YtigdcgklpapfbaaGreatDoor
open Go.Sort

def cmpS (a b : StartD) : Int := S3.orI (Lib.compareInt a.1 b.1) (Lib.compareInt a.2 b.2)
theorem ltS_eq (a b : StartD) : ltOf cmpS a b = decide (a.1 < b.1 ∨ (a.1 = b.1 ∧ a.2 < b.2)) := by
  unfold ltOf cmpS S3.orI Lib.compareInt
  by_cases h1 : a.1 < b.1
  · simp [h1]
  · by_cases h2 : b.1 < a.1
    · simp [h1, h2]; omega
    · have h3 : a.1 = b.1 := by omega
      by_cases h4 : a.2 < b.2
      · simp [h3, h4]
      · by_cases h5 : b.2 < a.2 <;> simp [h3, h4, h5]
theorem swoS : SWO (ltOf cmpS) where
  irrefl x := by rw [ltS_eq]; simp
  trans x y z h1 h2 := by rw [ltS_eq] at *; simp at *; omega
  ntrans x y z h1 h2 := by rw [ltS_eq] at *; simp at *; omega
theorem totS (x y : StartD) (h1 : ltOf cmpS x y = false) (h2 : ltOf cmpS y x = false) : x = y := by
  rw [ltS_eq] at h1 h2
  simp at h1 h2
  exact Prod.ext (by omega) (by omega)
theorem leS_eq : (fun x y : StartD => !(ltOf cmpS) y x) = leS := by
  funext x y
  unfold leS
  rw [ltS_eq, ← decide_not]
  apply decide_eq_decide.2
  omega

set_option maxHeartbeats 4000000 in
set_option maxRecDepth 100000 in
theorem compareStarts_any (a b : StartD) (w : World) : Calls Tryz.prog 115 #[.agg #[.int .i64 a.1, .int .i64 a.2], .agg #[.int .i64 b.1, .int .i64 b.2]] w fun e w' => e = .returned (.int .i64 (cmpS a b)) ∧ ∃ q os', w' = grow (w.drewN q) os' := by
  obtain ⟨a1, a2⟩ := a
  obtain ⟨b1, b2⟩ := b
  unfold cmpS
  dsimp only
  have c1 := fun w => Tryz.cmp_Compare_int a1 b1 w
  have c2 := fun w => Tryz.cmp_Compare_int a2 b2 w
  obtain ⟨x, hx⟩ : ∃ x, Lib.compareInt a1 b1 = x := ⟨_, rfl⟩
  obtain ⟨y, hy⟩ : ∃ y, Lib.compareInt a2 b2 = y := ⟨_, rfl⟩
  rw [hx] at c1 ⊢
  rw [hy] at c2 ⊢
  have C1 := hid c1
  have C2 := hid c2
  clear c1 c2 hx hy
  obtain ⟨wx, hwx⟩ : ∃ wx, (w.alloc (.cells #[.int .i64 a1, .int .i64 a2] 74)).alloc (.cells #[.int .i64 b1, .int .i64 b2] 74) = wx := ⟨_, rfl⟩
  have hs : (w.alloc (.cells #[.int .i64 a1, .int .i64 a2] 74)).heap.size = w.heap.size + 1 := by simp
  have e1 := heap_alloc_new (w.alloc (.cells #[.int .i64 a1, .int .i64 a2] 74)) (.cells #[.int .i64 b1, .int .i64 b2] 74)
  have e0 := (((Below.refl _ _).alloc (Nat.le_refl _) (.cells #[.int .i64 b1, .int .i64 b2] 74)).block w.heap.size (by rw [hs]; omega)).trans (heap_alloc_new w (.cells #[.int .i64 a1, .int .i64 a2] 74))
  rw [hs] at e1
  rw [hwx] at e0 e1
  have p0 : wx.cell? ⟨w.heap.size, 0, none⟩ = some (.int .i64 a1) := by rw [Lib.cell_of_heap e0]; rfl
  have p1 : wx.cell? ⟨w.heap.size, 1, none⟩ = some (.int .i64 a2) := by rw [Lib.cell_of_heap e0]; rfl
  have q0 : wx.cell? ⟨w.heap.size + 1, 0, none⟩ = some (.int .i64 b1) := by rw [Lib.cell_of_heap e1]; rfl
  have q1 : wx.cell? ⟨w.heap.size + 1, 1, none⟩ = some (.int .i64 b2) := by rw [Lib.cell_of_heap e1]; rfl
  have HWX := hid hwx
  clear hwx hs e0 e1
  go_enter Tryz.func115, Tryz.ntmps115
  go_wp2
  rw [HWX.out]
  have k0 : (wx.alloc (.cells #[.int .i64 x, .int .i64 y] 3)).cell? ⟨wx.heap.size, 0, none⟩ = some (.int .i64 x) := by rw [Lib.cell_of_heap (heap_alloc_new _ _)]; rfl
  have k1 : (wx.alloc (.cells #[.int .i64 x, .int .i64 y] 3)).cell? ⟨wx.heap.size, 1, none⟩ = some (.int .i64 y) := by rw [Lib.cell_of_heap (heap_alloc_new _ _)]; rfl
  have hK : wx.cell? ⟨w.heap.size, 0, none⟩ = some (.int .i64 a1) ∧ wx.cell? ⟨w.heap.size, 1, none⟩ = some (.int .i64 a2) ∧ wx.cell? ⟨w.heap.size + 1, 0, none⟩ = some (.int .i64 b1) ∧ wx.cell? ⟨w.heap.size + 1, 1, none⟩ = some (.int .i64 b2) := ⟨p0, p1, q0, q1⟩
  have hK' : (wx.alloc (.cells #[.int .i64 x, .int .i64 y] 3)).cell? ⟨w.heap.size, 0, none⟩ = some (.int .i64 a1) ∧ (wx.alloc (.cells #[.int .i64 x, .int .i64 y] 3)).cell? ⟨w.heap.size, 1, none⟩ = some (.int .i64 a2) ∧ (wx.alloc (.cells #[.int .i64 x, .int .i64 y] 3)).cell? ⟨w.heap.size + 1, 0, none⟩ = some (.int .i64 b1) ∧ (wx.alloc (.cells #[.int .i64 x, .int .i64 y] 3)).cell? ⟨w.heap.size + 1, 1, none⟩ = some (.int .i64 b2) :=
    ⟨Lib.cell?_alloc_some _ p0, Lib.cell?_alloc_some _ p1, Lib.cell?_alloc_some _ q0, Lib.cell?_alloc_some _ q1⟩
  have HK := hid hK
  have HK' := hid hK'
  clear hK hK'
  go_region_held3 (fun w' => w'.cell? ⟨w.heap.size, 0, none⟩ = some (.int .i64 a1) ∧ w'.cell? ⟨w.heap.size, 1, none⟩ = some (.int .i64 a2) ∧ w'.cell? ⟨w.heap.size + 1, 0, none⟩ = some (.int .i64 b1) ∧ w'.cell? ⟨w.heap.size + 1, 1, none⟩ = some (.int .i64 b2))
    (first | with_reducible exact HK.out | exact HK.out | exact HK'.out)
    (first
      | (go_at_call_of 154 a1; (with_reducible refine (C1.out _).mono ?_); rintro e wq ⟨rfl, rfl⟩)
      | (go_at_call_of 154 a2; (with_reducible refine (C2.out _).mono ?_); rintro e wq ⟨rfl, rfl⟩)
      | (go_at_call 153; (refine (S3.or_any _ _ x y _ (by exact k0) (by exact k1)).mono ?_); rintro e wq ⟨rfl, rfl⟩))
  all_goals
    go_wp2
    go_ret
    exact ⟨rfl, 1, _, by rw [← HWX.out]; simp only [alloc_eq_grow, drew_grow, grow_grow]; rfl⟩

/-! ### the sort -/
theorem flat_starts (l : List StartD) : flatK startVs 2 l.toArray = (startVals l).toArray := by
  refine Go.Sort.ext_get! (by simp [startVals_len]) fun t ht => ?_
  rw [Go.Sort.size_flatK] at ht
  rw [Go.Sort.get_flatK _ _ _ _ ht]
  have hl : t / 2 < l.length := by simp at ht; omega
  have h2 : t % 2 < 2 := Nat.mod_lt _ (by omega)
  have hv : (startVs l[t / 2])[t % 2]? = some ((startVs l[t / 2])[t % 2]'h2) := List.getElem?_eq_getElem h2
  have := startVals_get l (t / 2) _ (List.getElem?_eq_getElem hl) (t % 2) _ hv
  rw [show t / 2 * 2 + t % 2 = t by omega] at this
  have e1 : (l.toArray)[t / 2]! = l[t / 2] := by simp [hl]
  rw [e1]
  have e2 : (startVals l).toArray[t]! = (startVs l[t / 2])[t % 2]'h2 := by
    rw [Array.getElem!_eq_getD, Array.getD_eq_getD_getElem?]
    simp [this]
  rw [e2]
  rw [getElem!_pos (startVs l[t / 2]) (t % 2) h2]
theorem holds_starts {w : World} {g : Nat} {cur : Array Value} {e : TypeId} {l : List StartD} (hb : w.heap[g]? = some (.cells cur e (0, 0))) (ht : cur.toList.take (l.length * 2) = startVals l) : HoldsK startVs 2 w g 0 l.toArray := by
  unfold HoldsK
  rw [flat_starts]
  intro j hj
  have hj' : j < (startVals l).length := by simpa using hj
  refine ⟨?_, by simp [World.frozen?, hb]⟩
  have hl := startVals_len l
  have h1 : (cur.toList.take (l.length * 2))[j]? = (startVals l)[j]? := by rw [ht]
  rw [List.getElem?_take_of_lt (by omega)] at h1
  simp only [World.cell?, hb, Nat.zero_add]
  simp only [Option.isSome_none, Bool.false_eq_true, if_false]
  rw [← Array.getElem?_toList, h1]
  simp [hj']
theorem heap_put {w : World} {g n : Nat} {os : Array Obj} {cur : Array Value} {e : TypeId} {fr : Nat × Nat} (F : Array Value) (hb : w.heap[g]? = some (.cells cur e fr)) :
    (grow (putRow id (Sort.ahead w n) g 0 F) os).heap[g]? = some (.cells (putCells id 0 F cur) e fr) := by
  have hg : g < w.heap.size := (Array.getElem?_eq_some_iff.1 hb).1
  rw [Go.Sort.heap_grow_old _ _ (by simpa [putRow, Go.Sort.mapBlock, Sort.ahead] using hg)]
  simp [putRow, Go.Sort.mapBlock, Sort.ahead, Array.getElem?_modify, hb, Go.Sort.onCells]
theorem grownBy_put {w : World} {g n : Nat} {os : Array Obj} (F : Array Value) : w.grownBy (grow (putRow id (Sort.ahead w n) g 0 F) os) (some g) := by
  refine ⟨rfl, rfl, rfl, by simp [putRow, Go.Sort.mapBlock, Sort.ahead], fun k hk hne => ?_⟩
  rw [Go.Sort.heap_grow_old _ _ (by simpa [putRow, Go.Sort.mapBlock, Sort.ahead] using hk)]
  have : g ≠ k := fun e => hne (by rw [e])
  simp [putRow, Go.Sort.mapBlock, Sort.ahead, Array.getElem?_modify, this]
theorem take_put (cur : Array Value) (l : List Value) (h : l.length ≤ cur.size) : (putCells id 0 l.toArray cur).toList.take l.length = l := by
  apply List.ext_getElem?
  intro j
  by_cases hj : j < l.length
  · rw [List.getElem?_take_of_lt hj, Array.getElem?_toList]
    simp [putCells, hj, show j < cur.size by omega]
  · rw [List.getElem?_take_eq_none (by omega), List.getElem?_eq_none (by omega)]
set_option maxHeartbeats 1000000 in
/-- SortFunc of a slice of starts of the call's own. -/
theorem sortStarts_any (v : Value) (l : List StartD) (B : Nat) (w : World) (h : StartRow w B v l) (hB : B ≤ w.heap.size) (hl : l.length ≤ 1000) :
    Calls Tryz.prog 128 #[v, .func (.func 115) #[] #[]] w fun e w' => e = .returned (.tuple #[]) ∧ StartRow w' B v (sortT l) ∧ Below B w w' := by
  have h' := h
  have eg : ∀ args w, (callFunc 115 args).run Tryz.prog w = .ok (.enter 115 args) w := enters_of Tryz.func115 (by kernel_rfl) rfl
  rcases h.2 with ⟨hv, h0⟩ | ⟨g, cap, cur, hv, hg0, hg, h1, h2, h3, h4⟩
  · have hl : l = [] := List.eq_nil_of_length_eq_zero h0
    subst hl
    subst hv
    refine (AnyF.slices_SortFunc_none Tryz.sortStarts none 0 _ w).mono ?_
    rintro e w' ⟨rfl, rfl⟩
    exact ⟨rfl, by rw [show sortT [] = [] by simp [sortT]]; exact h', Below.refl _ _⟩
  · subst hv
    have hlt := (Array.getElem?_eq_some_iff.1 hg).1
    have hH := holds_starts (l := l) hg h4
    have hcon := AnyQ.slices_SortFunc_total Tryz.sortStarts 2 Tryz.isAgg74 Tryz.sizeOf74 startVs (fun _ => rfl) (fun x v hv => by simp [startVs] at hv; rcases hv with rfl | rfl <;> rfl) cmpS swoS 115 #[] g 0 cap l.toArray w eg
      (fun _ _ _ _ x y => compareStarts_any x y _) hH hlt (by simp; omega) totS
    rw [leS_eq] at hcon
    have hcon2 : Calls Tryz.prog 128 #[.slice (some ⟨g, 0, none⟩) l.length cap, .func (.func 115) #[] #[]] w fun e w' => e = .returned (.tuple #[]) ∧ ∃ n os, w' = sortWorldK startVs 2 w g 0 n (sortT l).toArray os := hcon
    refine hcon2.mono ?_
    rintro e w' ⟨rfl, n, os, rfl⟩
    have hsl := sortT_len l
    have hvl := startVals_len (sortT l)
    unfold sortWorldK putRowK
    rw [flat_starts]
    refine ⟨rfl, ?_, (Below.refl _ w).grown (grownBy_put _) hB (fun k hk => by injection hk; omega)⟩
    unfold StartRow
    rw [hsl]
    refine ⟨by rw [hvl, hsl], .inr ⟨g, cap, _, rfl, hg0, heap_put _ hg, h1, h2, by simp [putCells, h3], ?_⟩⟩
    rw [show l.length * 2 = (startVals (sortT l)).length by omega]
    exact take_put cur _ (by omega)
end Go.Proofs.YtigdcgklpapfbaaGreatDoor.S10

set_option linter.unusedVariables false
namespace Go.Proofs.YtigdcgklpapfbaaGreatDoor.S10
open Go Go.Proofs Go.RowKit Go.Lib Go.Proofs.YtigdcgklpapfbaaGreatDoor

theorem contains_eq (l : List Int) (i : Nat) (x : Int) : (l.take i).contains x = decide (x ∈ l.take i) := by
  rw [Bool.eq_iff_iff]; simp
set_option maxHeartbeats 4000000 in
set_option maxRecDepth 100000 in
theorem hasEqualI_any (A : Option Addr) (l : List Int) (c : Nat) (P : Nat → Prop) (w : World) (h : NumsIn w P A l) (hlc : l.length ≤ c) (hc : c ≤ 9223372036854775807) :
    Calls Tryz.prog 113 #[.slice A l.length c] w fun e w' => e = .returned (.bool (dupB l)) ∧ w = w' := by
  obtain ⟨ANS, hA⟩ : ∃ ANS, dupB l = ANS := ⟨_, rfl⟩
  rw [hA]
  have HA := hid hA
  have HH := hid h
  clear h hA
  go_enter Tryz.func113, Tryz.ntmps113
  go_wp2
  go_loop [3, 4, 7] (fun _ _ iv => ∃ i : Nat, iv = .int .i64 (i : Int) ∧ i ≤ l.length ∧ Hid ((l.take i).Nodup)) (fun _ _ iv => l.length - (RowKit.intOf iv).toNat)
  case atStart => exact ⟨0, rfl, Nat.zero_le _, hid (by simp)⟩
  case round =>
    obtain ⟨i, rfl, hi, hN⟩ := hrel
    by_cases hlt : i < l.length
    · have hltz : (i : Int) < (l.length : Int) := by omega
      obtain ⟨b1, o1, rfl, _, hc1⟩ := HH.out.num hlt
      have hst := nodup_take hlt hN.out
      have cC := Tryz.slices_Contains_int b1 o1 i c l l[i] w (by omega) (by omega) (fun j hj => by
        obtain ⟨b2, o2, hA2, _, hc2⟩ := HH.out.num hj
        injection hA2 with hA2
        injection hA2 with e1 e2 _
        subst e1 e2
        rw [getD_elem hj]
        exact hc2)
      rw [contains_eq] at cC
      obtain ⟨y, hy⟩ : ∃ y, l[i] = y := ⟨_, rfl⟩
      rw [hy] at hc1 hst cC
      have hic : i ≤ c := by omega
      by_cases hm : y ∈ l.take i
      · rw [decide_eq_true hm] at cC
        have HT : Hid (ANS = true) := hid (by
          rw [← HA.out]
          unfold dupB
          rw [decide_eq_false (fun k => hst.1 (nodup_pre _ k) hm)]
          rfl)
        have CC := hid cC
        clear cC hst hy hm hN
        go_wp2_with fail
        refine CC.out.mono ?_
        rintro e w' ⟨rfl, rfl⟩
        go_wp2
        go_ret
        exact ⟨by rw [HT.out]; rfl, rfl⟩
      · rw [decide_eq_false hm] at cC
        have HST := hid (hst.2 hm)
        have CC := hid cC
        clear cC hst hy hm hN
        go_wp2_with fail
        refine CC.out.mono ?_
        rintro e w' ⟨rfl, rfl⟩
        go_wp2
        go_round
        case rel => exact ⟨i + 1, by go_num, by omega, HST⟩
        case measure => simp [RowKit.intOf]; omega
    · have hltz : ¬ (i : Int) < (l.length : Int) := by omega
      have HF : Hid (ANS = false) := hid (by
        have h := hN.out
        rw [List.take_of_length_le (by omega)] at h
        rw [← HA.out]
        unfold dupB
        rw [decide_eq_true h]
        rfl)
      go_wp2
      go_ret
      exact ⟨by rw [HF.out]; rfl, rfl⟩

set_option maxHeartbeats 2000000 in
theorem readPat_any (K : Nat) (n : Int) (y : ByteArray) (hy : y.size ≤ 4611686018427387904) (W : World) (hK : W.cell? ⟨K, 0, none⟩ = some (.int .i64 n)) (hE : Env W) :
    Calls Tryz.prog 118 (#[.string y] ++ #[.pointer (some ⟨K, 0, none⟩)]) W fun e w' => (∃ r, r = patM n (lst y) ∧ e = .returned (.tuple #[.int .i64 r.1, .int .i64 r.2])) ∧ Below W.heap.size W w' := by
  have cP := parse_any y hy n W hE
  unfold ItemOut at cP
  unfold patM
  obtain ⟨⟨R, E⟩, hR⟩ : ∃ R, parseM (lst y) n = R := ⟨_, rfl⟩
  rw [hR] at cP ⊢
  dsimp only at cP ⊢
  obtain ⟨r, hr⟩ : ∃ r : Int, ((R : Nat) : Int) = r := ⟨_, rfl⟩
  rw [hr] at cP ⊢
  have CP := hid cP
  clear cP hR hE hr
  simp only [List.append_toArray, List.cons_append, List.nil_append]
  go_enter Tryz.func118, Tryz.ntmps118
  go_wp2_with fail
  refine CP.out.mono ?_
  rintro e w' ⟨rfl, hb⟩
  have HB := hid hb
  clear hb
  go_wp2
  go_ret2
  exact ⟨⟨_, rfl, rfl⟩, HB.out⟩

set_option maxHeartbeats 4000000 in
set_option maxRecDepth 100000 in
theorem readPatterns_any (n : Int) (x : ByteArray) (hs : x.size < 4294967281) (w : World) (hE : Env w) :
    Calls Tryz.prog 86 #[.string x, .int .i64 n] w fun e w' => (∃ v, e = .returned (.tuple #[v, .int .i64 (patsM n (lst x)).2]) ∧ IntRow w' w.heap.size v (patsM n (lst x)).1) ∧ Below w.heap.size w w' := by
  have hb1 := (Below.refl w.heap.size w).alloc (Nat.le_refl _) (.cells #[.int .i64 n] 3)
  have hB1 := Box1.new w 3 (.int .i64 n)
  have cP := readPartsI_any n w.heap.size x hs (w.alloc (.cells #[.int .i64 n] 3)) (fun y W hy hb => readPat_any w.heap.size n y (by omega) W (hB1.next hb).cell (hE.below (hb1.trans (hb.mono (by simp))) hE.size))
  unfold patsM
  obtain ⟨⟨L, E⟩, hR⟩ : ∃ R, partsM (patM n) 47 8 (lst x) = R := ⟨_, rfl⟩
  have hL8 := partsM_most (patM n) 47 8 (lst x)
  rw [hR] at cP hL8 ⊢
  dsimp only at cP hL8 ⊢
  have HB1 := hid hb1
  have CP := hid cP
  have HL8 := hid hL8
  clear cP hE hR hB1 hb1 hL8
  by_cases h0 : E = 0
  · subst h0
    rw [if_neg (by simp)]
    cases hd : dupB L with
    | true =>
      rw [if_pos rfl]
      go_enter Tryz.func86, Tryz.ntmps86
      go_wp2_with fail
      generalize w.alloc (.cells #[.int .i64 n] 3) = w1 at CP HB1 ⊢
      refine CP.out.mono ?_
      rintro e w2 ⟨⟨v, rfl, hrow⟩, hb⟩
      obtain ⟨A, c, rfl, hc1, hc2, hin⟩ := FlatIn.ofRow hrow (by simp [intVals_len])
      have cH := hasEqualI_any A L c _ w2 hin hc1 hc2
      rw [hd] at cH
      have CH := hid cH
      have HB := hid (HB1.out.trans (hb.mono HB1.out.size))
      clear hb hrow hin cH hd
      go_wp2_with fail
      refine CH.out.mono ?_
      rintro e w3 ⟨rfl, rfl⟩
      go_wp2
      go_ret2
      exact ⟨⟨_, rfl, IntRow.nil _ _⟩, HB.out⟩
    | false =>
      rw [if_neg (by simp)]
      go_enter Tryz.func86, Tryz.ntmps86
      go_wp2_with fail
      generalize w.alloc (.cells #[.int .i64 n] 3) = w1 at CP HB1 ⊢
      refine CP.out.mono ?_
      rintro e w2 ⟨⟨v, rfl, hrow⟩, hb⟩
      have hrow' : IntRow w2 w.heap.size v L := IntRow.mono hrow HB1.out.size
      obtain ⟨A, c, rfl, hc1, hc2, hin⟩ := FlatIn.ofRow hrow (by simp [intVals_len])
      have cH := hasEqualI_any A L c _ w2 hin hc1 hc2
      rw [hd] at cH
      have CH := hid cH
      have HB := hid (HB1.out.trans (hb.mono HB1.out.size))
      have HROW := hid hrow'
      clear hb hrow hin cH hd hrow'
      go_wp2_with fail
      refine CH.out.mono ?_
      rintro e w3 ⟨rfl, rfl⟩
      go_wp2
      go_ret2
      exact ⟨⟨_, rfl, HROW.out⟩, HB.out⟩
  · rw [if_pos h0]
    have e1 : (E != 0) = true := by simpa using h0
    have e2 : (E == 0) = false := by simpa using h0
    go_enter Tryz.func86, Tryz.ntmps86
    go_wp2_with fail
    generalize w.alloc (.cells #[.int .i64 n] 3) = w1 at CP HB1 ⊢
    refine CP.out.mono ?_
    rintro e w2 ⟨⟨v, rfl, hrow⟩, hb⟩
    obtain ⟨A, c, rfl⟩ := row_slice hrow
    have HB := hid (HB1.out.trans (hb.mono HB1.out.size))
    clear hb hrow
    go_wp2
    go_ret2
    exact ⟨⟨_, rfl, IntRow.nil _ _⟩, HB.out⟩
end Go.Proofs.YtigdcgklpapfbaaGreatDoor.S10

