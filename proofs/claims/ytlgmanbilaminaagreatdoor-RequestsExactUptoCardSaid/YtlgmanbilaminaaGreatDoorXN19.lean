/-
  byPriority of requests; the library's stable sort at fewer than 20 requests. Conditions: as stated.
-/
import Derived.Test.YtlgmanbilaminaaGreatDoorXN01
import Derived.Test.YtlgmanbilaminaaGreatDoorXN02
import Derived.Test.YtlgmanbilaminaaGreatDoorXN03
import Derived.Test.YtlgmanbilaminaaGreatDoorXN04
import Derived.Test.YtlgmanbilaminaaGreatDoorXN05
import Derived.Test.YtlgmanbilaminaaGreatDoorXN17
import Derived.Test.YtlgmanbilaminaaGreatDoorXN18
import Derived.Test.YtlgmanbilaminaaGreatDoorProg
import Derived.WalkKit
import Derived.WalkSpells
import Derived.WalkLawsBesides
import Derived.Lib.Hide
import Derived.Deep.QuietTactic
import Derived.BigQuiet
import Derived.Laws.Rows
import Derived.OwnWalk
import Derived.Lib.BufferWrite
import Derived.Lib.UnsafeStr
import Derived.Laws.IdiomStrings
import Derived.Laws.BytesArg
import Derived.Laws.BytesString
import Derived.Laws.OwnMore
import Derived.Lib.IndexLaws
import Derived.Lib.ItoaNum
import Derived.Lib.Atoi
import Derived.Lib.Bytealg
import Derived.Sort.WalkA
import Derived.Sort.LotA
import Derived.Shelf.SlSortCmp.Insertion
import Derived.Shelf.SlGeneric
import Derived.Shelf.SlSortCmp.NoneTotal
import Derived.Ground.SlsfProg
import Derived.Shelf.Strings.Builder1
import Derived.Shelf.Strings.Builder2
import Derived.Shelf.Strings.OnBuilder
import Derived.Shelf.Strings.Trim
import Derived.Shelf.Small.Utf8
import Derived.Shelf.Small.Bits
import Derived.Shelf.Small.Strs
import Derived.Shelf.Small.Wraps
import Derived.Shelf.Strings.BuilderF
import Derived.Shelf.Strings.BuilderK
import Derived.Shelf.Strings.Builder2Cap
import Derived.Shelf.Strconv.Atoi
import Derived.Shelf.Strconv.Itoa0
import Derived.Shelf.Strconv.Itoa1
import Derived.Shelf.LaysM
import Derived.Shelf.Strconv.Itoa2
import Derived.Shelf.Strconv.Itoa3
import Derived.Shelf.Strconv.AtoiErrFast
import Derived.Shelf.Strconv.ParseIntEmpty
import Derived.Shelf.Strconv.AtoiFail
import Derived.Shelf.Strconv.Clone
import Derived.Shelf.Strconv.SyntaxError
import Derived.Shelf.LaysC
import Derived.Shelf.Strconv.ToError
import Derived.Shelf.Strconv.AtoiErr
import Derived.Shelf.Strings.Search1
import Derived.Shelf.Strings.Search2
import Derived.Shelf.Strings.Search3
import Derived.Shelf.Strings.Cut
import Derived.Shelf.Strings.Shaped
import Derived.Shelf.Strings.Prefix
import Derived.Shelf.Strings.Runes
import Derived.Shelf.Strings.AsciiSet
import Derived.Shelf.Bits.Mul64
import Derived.Shelf.Strings.Repeat
import Derived.Shelf.Unicode.DecodeSlow
import Derived.Shelf.Strings.BuilderCap
import Derived.Shelf.Slices.Turned
import Derived.Ground.Names2Prog
import Derived.Shelf.Slices.Clone
import Derived.Shelf.SlSortCmp.SiftDown1
import Derived.Shelf.SlSortCmp.HeapSort1
import Derived.Shelf.SlSortCmp.Insertion1
import Derived.Shelf.SlSortCmp.Median1
import Derived.Shelf.SlSortCmp.Pivot1
import Derived.Shelf.SlSortCmp.ReverseRange1
import Derived.Shelf.SlSortCmp.PartialInsertion1
import Derived.Shelf.SlSortCmp.PartitionEqual1
import Derived.Shelf.SlSortCmp.Partition1
import Derived.Shelf.SlSortCmp.Pdq1
import Derived.Shelf.SlSortCmp.Whole1
set_option linter.unusedVariables false
namespace Go.Proofs.YtlgmanbilaminaaGreatDoor.S12
open Go Go.Proofs Go.RowKit Go.Lib Go.Sort Go.Proofs.YtlgmanbilaminaaGreatDoor
instance : Inhabited ReqD := ⟨⟨[], [], 0, []⟩⟩
abbrev ReqP := ReqD × ReqA
def encP (x : ReqP) : List Value := reqVs x.1 x.2
def keyP (x : ReqP) : Int := x.1.p
theorem encP_len (x : ReqP) : (encP x).length = 4 := rfl
theorem encP_one (x : ReqP) : ∀ v ∈ encP x, v.oneCell' = true := req_one x.1 x.2
set_option maxHeartbeats 2000000 in
theorem byPriority_any (x y : ReqP) (w : World) : Calls Tryz.prog 51 #[.agg (encP x).toArray, .agg (encP y).toArray] w fun e w' => e = .returned (.int .i64 (cfK keyP x y)) ∧ ∃ q os', w' = grow (w.drewN q) os' := by
  obtain ⟨⟨s1, c1, p1, l1⟩, A1, k1⟩ := x
  obtain ⟨⟨s2, c2, p2, l2⟩, A2, k2⟩ := y
  have cC := Tryz.cmp_Compare_int p1 p2
  have hc : Lib.compareInt p1 p2 = cfK keyP (⟨s1, c1, p1, l1⟩, A1, k1) (⟨s2, c2, p2, l2⟩, A2, k2) := rfl
  rw [hc] at cC
  generalize cfK keyP _ _ = R at cC ⊢
  show Calls Tryz.prog 51 #[.agg #[.string (ba s1), .string (ba c1), .int .i64 p1, .slice A1 l1.length k1], .agg #[.string (ba s2), .string (ba c2), .int .i64 p2, .slice A2 l2.length k2]] w _
  obtain ⟨X1, hX1⟩ : ∃ X, ba s1 = X := ⟨_, rfl⟩
  obtain ⟨X2, hX2⟩ : ∃ X, ba c1 = X := ⟨_, rfl⟩
  obtain ⟨Y1, hY1⟩ : ∃ X, ba s2 = X := ⟨_, rfl⟩
  obtain ⟨Y2, hY2⟩ : ∃ X, ba c2 = X := ⟨_, rfl⟩
  obtain ⟨n1, hn1⟩ : ∃ X, l1.length = X := ⟨_, rfl⟩
  obtain ⟨n2, hn2⟩ : ∃ X, l2.length = X := ⟨_, rfl⟩
  rw [hX1, hX2, hY1, hY2, hn1, hn2]
  clear hX1 hX2 hY1 hY2 hn1 hn2 hc
  have CC := hid cC
  clear cC
  go_enter Tryz.func51, Tryz.ntmps51
  go_wp2_with fail
  refine (CC.out _).mono ?_
  rintro e w' ⟨rfl, rfl⟩
  go_wp2
  go_ret
  exact ⟨rfl, 0, _, by rw [alloc_eq_grow, alloc_eq_grow, grow_grow]; rfl⟩
theorem flat_reqs (l : List ReqP) : flatK encP 4 l.toArray = (reqVals l).toArray := by
  refine Go.Sort.ext_get! (by simp [reqVals_len]) fun t ht => ?_
  rw [Go.Sort.size_flatK] at ht
  rw [Go.Sort.get_flatK _ _ _ _ ht]
  have hl : t / 4 < l.length := by simp at ht; omega
  have h2 : t % 4 < 4 := Nat.mod_lt _ (by omega)
  have hv : (encP l[t / 4])[t % 4]? = some ((encP l[t / 4])[t % 4]'h2) := List.getElem?_eq_getElem h2
  have := reqVals_get l (t / 4) _ (List.getElem?_eq_getElem hl) (t % 4) _ hv
  rw [show t / 4 * 4 + t % 4 = t by omega] at this
  have e1 : (l.toArray)[t / 4]! = l[t / 4] := by simp [hl]
  rw [e1]
  have e2 : (reqVals l).toArray[t]! = (encP l[t / 4])[t % 4]'h2 := by
    rw [Array.getElem!_eq_getD, Array.getD_eq_getD_getElem?]
    simp [this]
  rw [e2]
  rw [getElem!_pos (encP l[t / 4]) (t % 4) h2]
theorem holds_reqs {w : World} {g : Nat} {cur : Array Value} {e : TypeId} {l : List ReqP} (hb : w.heap[g]? = some (.cells cur e (0, 0))) (ht : cur.toList.take (l.length * 4) = reqVals l) : HoldsK encP 4 w g 0 l.toArray := by
  unfold HoldsK
  rw [flat_reqs]
  intro j hj
  have hj' : j < (reqVals l).length := by simpa using hj
  refine ⟨?_, by simp [World.frozen?, hb]⟩
  have hl := reqVals_len l
  have h1 : (cur.toList.take (l.length * 4))[j]? = (reqVals l)[j]? := by rw [ht]
  rw [List.getElem?_take_of_lt (by omega)] at h1
  simp only [World.cell?, hb, Nat.zero_add]
  simp only [Option.isSome_none, Bool.false_eq_true, if_false]
  rw [← Array.getElem?_toList, h1]
  simp [hj']
theorem heap_putQ {w : World} {g n : Nat} {os : Array Obj} {cur : Array Value} {e : TypeId} {fr : Nat × Nat} (F : Array Value) (hb : w.heap[g]? = some (.cells cur e fr)) :
    (grow (putRow id (Sort.ahead w n) g 0 F) os).heap[g]? = some (.cells (putCells id 0 F cur) e fr) := by
  have hg : g < w.heap.size := (Array.getElem?_eq_some_iff.1 hb).1
  rw [Go.Sort.heap_grow_old _ _ (by simpa [putRow, Go.Sort.mapBlock, Sort.ahead] using hg)]
  simp [putRow, Go.Sort.mapBlock, Sort.ahead, Array.getElem?_modify, hb, Go.Sort.onCells]
theorem grownBy_putQ {w : World} {g n : Nat} {os : Array Obj} (F : Array Value) : w.grownBy (grow (putRow id (Sort.ahead w n) g 0 F) os) (some g) := by
  refine ⟨rfl, rfl, rfl, by simp [putRow, Go.Sort.mapBlock, Sort.ahead], fun k hk hne => ?_⟩
  rw [Go.Sort.heap_grow_old _ _ (by simpa [putRow, Go.Sort.mapBlock, Sort.ahead] using hk)]
  have : g ≠ k := fun e => hne (by rw [e])
  simp [putRow, Go.Sort.mapBlock, Sort.ahead, Array.getElem?_modify, this]
theorem take_putQ (cur : Array Value) (l : List Value) (h : l.length ≤ cur.size) : (putCells id 0 l.toArray cur).toList.take l.length = l := by
  apply List.ext_getElem?
  intro j
  by_cases hj : j < l.length
  · rw [List.getElem?_take_of_lt hj, Array.getElem?_toList]
    simp [putCells, hj, show j < cur.size by omega]
  · rw [List.getElem?_take_eq_none (by omega), List.getElem?_eq_none (by omega)]
theorem cmpP (blk off size : Nat) (w : World) : CmpLays Tryz.prog 51 #[] encP 4 (cfK keyP) blk off size w := fun _ _ _ _ x y => byPriority_any x y _
def StableOut (blk : Nat) (d : Array ReqP) (w : World) (e : Ending) (w' : World) : Prop := e = .returned (.tuple #[]) ∧ ∃ d', StabR keyP d d' ∧ SortedK keyP 0 d.size d' ∧ ∃ n os, w' = sortWorldK encP 4 w blk 0 n d' os
set_option maxHeartbeats 2000000 in
set_option maxRecDepth 100000 in
theorem stable_small (blk cap : Nat) (d : Array ReqP) (w : World) (hH : HoldsK encP 4 w blk 0 d) (hblk : blk < w.heap.size) (hn : d.size < 20) :
    Calls Tryz.prog 83 #[.slice (some ⟨blk, 0, none⟩) d.size cap, .int .i64 (d.size : Int), .func (.func 51) #[] #[]] w (StableOut blk d w) := by
  have eg : ∀ args w, (callFunc 51 args).run Tryz.prog w = .ok (.enter 51 args) w := enters_of Tryz.func51 (by kernel_rfl) rfl
  have hI := AnyQ.insertionSortCmpFunc Tryz.insReqs 4 Tryz.isAgg61 Tryz.sizeOf61 encP encP_len encP_one (cfK keyP) 51 #[] blk 0 cap 0 d.size d w eg (cmpP _ _ _ _) hH hblk (Nat.zero_le _) (Nat.le_refl _) (by omega)
  have hI2 : Calls Tryz.prog 118 #[.slice (some ⟨blk, 0, none⟩) d.size cap, .int .i64 0, .int .i64 (d.size : Int), .func (.func 51) #[] #[]] w (StableOut blk d w) := hI.mono fun e w' ⟨h1, n, os, h2⟩ => ⟨h1, _, insertion_stab d 0 d.size (Nat.le_refl _), sortedK_of (insertionSort_holds (swoK keyP) d 0 d.size (Nat.zero_le _) (Nat.le_refl _)).2, n, os, h2⟩
  have HI := hid hI2
  have n1 : ¬ (20 : Int) ≤ (d.size : Int) := by omega
  have n2 : ¬ (20 : Int) < (d.size : Int) := by omega
  clear hI hI2 hH eg
  go_enter Tryz.func83, Tryz.ntmps83
  go_wp2_with fail
  refine wp_loop_rounds 1 ?_
  rw [rounds_succ]
  go_wp2_with fail
  refine HI.out.mono ?_
  rintro e w1 ⟨rfl, hO⟩
  have HO := hid hO
  clear hO
  go_wp2_with fail
  refine wp_loop_rounds 1 ?_
  rw [rounds_succ]
  go_wp2_with fail
  (try simp only [Exit.inBlock, Exit.then]); refine bodyPost_end (results_none rfl _ _ _) rfl ?_
  exact ⟨rfl, HO.out⟩
set_option maxHeartbeats 1000000 in
theorem stable_none (cap : Nat) (w : World) :
    Calls Tryz.prog 83 #[.slice none 0 cap, .int .i64 0, .func (.func 51) #[] #[]] w fun e w' => e = .returned (.tuple #[]) ∧ w' = w := by
  have HI := hid (AnyF.insertionSortCmpFunc_none Tryz.insReqs none cap (.func (.func 51) #[] #[]) w)
  go_enter Tryz.func83, Tryz.ntmps83
  go_wp2_with fail
  refine wp_loop_rounds 1 ?_
  rw [rounds_succ]
  go_wp2_with fail
  refine HI.out.mono ?_
  rintro e w1 ⟨rfl, rfl⟩
  go_wp2_with fail
  refine wp_loop_rounds 1 ?_
  rw [rounds_succ]
  go_wp2_with fail
  (try simp only [Exit.inBlock, Exit.then]); refine bodyPost_end (results_none rfl _ _ _) rfl ?_
  exact ⟨rfl, rfl⟩
def StableSaid (n : Nat) : Prop := ∀ (blk cap : Nat) (d : Array ReqP) (w : World), d.size = n → HoldsK encP 4 w blk 0 d → blk < w.heap.size →
  Calls Tryz.prog 83 #[.slice (some ⟨blk, 0, none⟩) d.size cap, .int .i64 (d.size : Int), .func (.func 51) #[] #[]] w (StableOut blk d w)
theorem said_small {n : Nat} (h : n < 20) : StableSaid n := fun blk cap d w hd hH hb => stable_small blk cap d w hH hb (by omega)
set_option maxHeartbeats 1000000 in
theorem sortStable_any (v : Value) (L : List ReqP) (B : Nat) (w : World) (hS : StableSaid L.length) (h : w.ownsRow B 61 4 v L.length (reqVals L)) (hB : B ≤ w.heap.size) :
    Calls Tryz.prog 50 #[v, .func (.func 51) #[] #[]] w fun e w' => e = .returned (.tuple #[]) ∧ (∃ L', Stab keyP L L' ∧ L'.length = L.length ∧ w'.ownsRow B 61 4 v L.length (reqVals L')) ∧ w.grownBy w' v.ownBlock := by
  have h' := h
  rcases h.2 with ⟨hv, h0⟩ | ⟨g, cap, cur, hv, hg0, hg, h1, h2, h3, h4⟩
  · have hl : L = [] := List.eq_nil_of_length_eq_zero h0
    subst hl
    subst hv
    have HN := hid (stable_none 0 w)
    have H' := hid h'
    clear h h' hS
    go_enter Tryz.func50, Tryz.ntmps50
    go_wp2_with fail
    refine HN.out.mono ?_
    rintro e w1 ⟨rfl, rfl⟩
    go_wp2_with fail
    (try simp only [Exit.inBlock, Exit.then]); refine bodyPost_end (results_none rfl _ _ _) rfl ?_
    exact ⟨rfl, ⟨[], Stab.nil, rfl, H'.out⟩, ⟨rfl, rfl, rfl, Nat.le_refl _, fun _ _ _ => rfl⟩⟩
  · subst hv
    have hlt := (Array.getElem?_eq_some_iff.1 hg).1
    have hH := holds_reqs (l := L) hg h4
    have hC := hS g cap L.toArray w (by simp) hH hlt
    have hsz : L.toArray.size = L.length := by simp
    rw [hsz] at hC
    have HC := hid hC
    have fin : ∀ w', (∃ d', StabR keyP L.toArray d' ∧ SortedK keyP 0 L.toArray.size d' ∧ ∃ n os, w' = sortWorldK encP 4 w g 0 n d' os) → (∃ L', Stab keyP L L' ∧ L'.length = L.length ∧ w'.ownsRow B 61 4 (.slice (some ⟨g, 0, none⟩) L.length cap) L.length (reqVals L')) ∧ w.grownBy w' (some g) := by
      rintro w' ⟨d', hs1, hs2, n, os, rfl⟩
      have hd' : d'.size = L.length := by rw [hs1.1]; simp
      have hst : Stab keyP L d'.toList := by
        have := stab_of hs1 (by rw [hs1.1]; exact hs2)
        simpa using this
      have hvl := reqVals_len d'.toList
      have hdl : d'.toList.length = L.length := by rw [Array.length_toList, hd']
      unfold sortWorldK putRowK
      rw [show flatK encP 4 d' = (reqVals d'.toList).toArray by rw [← flat_reqs]]
      refine ⟨⟨d'.toList, hst, hdl, by rw [hvl, hdl], .inr ⟨g, cap, _, rfl, hg0, heap_putQ _ hg, h1, h2, by simp [putCells, h3], ?_⟩⟩, grownBy_putQ _⟩
      rw [show L.length * 4 = (reqVals d'.toList).length by omega]
      exact take_putQ cur _ (by omega)
    have FIN := hid fin
    clear h h' hS hH hC hsz fin
    go_enter Tryz.func50, Tryz.ntmps50
    go_wp2_with fail
    refine HC.out.mono ?_
    rintro e w1 ⟨rfl, hO⟩
    have HO := hid (FIN.out w1 hO)
    clear hO
    go_wp2_with fail
    (try simp only [Exit.inBlock, Exit.then]); refine bodyPost_end (results_none rfl _ _ _) rfl ?_
    exact ⟨rfl, HO.out.1, HO.out.2⟩
end Go.Proofs.YtlgmanbilaminaaGreatDoor.S12
