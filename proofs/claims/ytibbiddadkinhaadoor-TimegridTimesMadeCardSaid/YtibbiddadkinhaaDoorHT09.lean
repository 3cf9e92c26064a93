/-
  What is kept while the dice give out numbers, and what a function hands back through a cell. Conditions: as the lemmas state.
  Made grids and times: Grid, Time, One, OddGrid, OddTime of timetablemade.Dice. Conditions: the dice lie in memory; the grid is as made.
  The sanity check of the statements about times of the week. Conditions: the variables hold what their text lays.
  The specification's functions of times of the week: Valid, Sound, Usable, Fits, meet, Between, Overlap, Before. Conditions: the starts and lengths are numbers of 64 bits.
-/
import Derived.Test.YtibbiddadkinhaaDoorHT01
import Derived.Test.YtibbiddadkinhaaDoorHT02
import Derived.Test.YtibbiddadkinhaaDoorHT03
import Derived.Test.YtibbiddadkinhaaDoorHT04
import Derived.Test.YtibbiddadkinhaaDoorHT05
import Derived.Test.YtibbiddadkinhaaDoorHT06
import Derived.Test.YtibbiddadkinhaaDoorHT07
import Derived.Test.YtibbiddadkinhaaDoorHT08
import Derived.Test.YtibbiddadkinhaaDoorProg
import Derived.WalkKit
import Derived.WalkSpells
import Derived.WalkLawsBesides
import Derived.Lib.Hide
import Derived.Deep.QuietTactic
import Derived.BigQuiet
import Derived.Laws.Rows
import Derived.OwnWalk
import Derived.Lib.BufferWrite
import Derived.Lib.UnsafeStr
import Derived.Laws.IdiomStrings
import Derived.Laws.BytesArg
import Derived.Laws.BytesString
import Derived.Laws.OwnMore
import Derived.Handy
import Derived.Laws.ResultCell
import Derived.Laws.BitsAllLaws
import Derived.Laws.BitsLemmas
import Derived.Lib.IndexLaws
import Derived.Lib.ItoaNum
import Derived.Lib.Atoi
import Derived.Deep.RegionLaw
import Derived.Deep.RegionHeld3
import Derived.Deep.MidRow
import Derived.Shelf.Strings.Builder1
import Derived.Shelf.Strings.Builder2
import Derived.Shelf.Strings.OnBuilder
import Derived.Shelf.Strings.BuilderF
import Derived.Shelf.Strings.BuilderK
import Derived.Shelf.Strings.Builder2Cap
import Derived.Shelf.Strconv.Atoi
import Derived.Shelf.Strconv.Itoa0
import Derived.Shelf.Strconv.Itoa1
import Derived.Shelf.LaysM
import Derived.Shelf.Strconv.Itoa2
import Derived.Shelf.Strconv.Itoa3
import Derived.Shelf.Strconv.AtoiErrFast
import Derived.Shelf.Strconv.ParseIntEmpty
import Derived.Shelf.Strconv.AtoiFail
import Derived.Shelf.Strconv.Clone
import Derived.Shelf.Strconv.SyntaxError
import Derived.Shelf.LaysC
import Derived.Shelf.Strconv.ToError
import Derived.Shelf.Strconv.AtoiErr
import Derived.Shelf.Strings.Search1
import Derived.Shelf.Strings.Search2
import Derived.Shelf.Strings.Search3
import Derived.Shelf.Strings.Cut
import Derived.Shelf.Strings.Shaped
import Derived.Shelf.Strings.Prefix
import Derived.Shelf.Unicode.DecodeSlow
import Derived.Shelf.Strings.BuilderCap
import Derived.Lib.AtoiErrMem
import Derived.RangeFuncNested
import Derived.RangeFuncBound
import Derived.RangeFuncCalls
import Derived.RangeFuncLeaves
import Derived.Shelf.Abstract
import Derived.Shelf.RegionOpen
import Derived.OwnWalkIn
import Derived.TacticsInMore
import Derived.LoopNIn
import Derived.LoopIn
set_option linter.unusedVariables false
namespace Go.Proofs.YtibbiddadkinhaaDoor
open Go Go.Proofs Go.RowKit Go.Lib

section
variable {w0 w w' : World} {g c k k' : Nat} {A : Option Addr} {L : List Int}
end
theorem cells_free {w : World} {b : Nat} {cs : Array Value} {t : TypeId} (h : w.heap[b]? = some (.cells cs t (0, 0))) (j : Nat) : w.frozen? ⟨b, j, none⟩ = false := by simp [World.frozen?, h]
end Go.Proofs.YtibbiddadkinhaaDoor

set_option linter.unusedVariables false
namespace Go.Proofs.YtibbiddadkinhaaDoor
open Go Go.Proofs Go.RowKit Go.Lib

/-- Four numbers lie in a block that may be written. -/
def Cells4 (t : TypeId) (w : World) (B : Nat) (a b x d : Int) : Prop := w.heap[B]? = some (.cells #[.int .i64 a, .int .i64 b, .int .i64 x, .int .i64 d] t (0, 0))
section
variable {T : TypeId} {w w' : World} {B : Nat} {a b x d : Int}
theorem Cells4.box (h : Cells4 T w B a b x d) : Box4 w B a b x d := by
  unfold Cells4 at h
  refine ⟨?_, ?_, ?_, ?_, (Array.getElem?_eq_some_iff.1 h).1⟩
  all_goals (rw [Lib.cell_of_heap h]; rfl)
theorem Cells4.free (h : Cells4 T w B a b x d) (j : Nat) : w.frozen? ⟨B, j, none⟩ = false := cells_free h j
theorem Cells4.lt (h : Cells4 T w B a b x d) : B < w.heap.size := (Array.getElem?_eq_some_iff.1 h).1
theorem Cells4.under (h : Cells4 T w B a b x d) (k : Below w.heap.size w w') : Cells4 T w' B a b x d := (k.block _ h.lt).trans h
theorem Cells4.set0 (h : Cells4 T w B a b x d) (v : Int) : Cells4 T (w.setCell ⟨B, 0, none⟩ (.int .i64 v)) B v b x d := by unfold Cells4; rw [heap_setCell_same w B 0 _ _ _ h]; rfl
theorem Cells4.set1 (h : Cells4 T w B a b x d) (v : Int) : Cells4 T (w.setCell ⟨B, 1, none⟩ (.int .i64 v)) B a v x d := by unfold Cells4; rw [heap_setCell_same w B 1 _ _ _ h]; rfl
theorem Cells4.set2 (h : Cells4 T w B a b x d) (v : Int) : Cells4 T (w.setCell ⟨B, 2, none⟩ (.int .i64 v)) B a b v d := by unfold Cells4; rw [heap_setCell_same w B 2 _ _ _ h]; rfl
theorem Cells4.set3 (h : Cells4 T w B a b x d) (v : Int) : Cells4 T (w.setCell ⟨B, 3, none⟩ (.int .i64 v)) B a b x v := by unfold Cells4; rw [heap_setCell_same w B 3 _ _ _ h]; rfl
theorem Cells4.all (h : Cells4 T w B a b x d) (v0 v1 v2 v3 : Int) : Cells4 T ((((w.setCell ⟨B, 0, none⟩ (.int .i64 v0)).setCell ⟨B, 1, none⟩ (.int .i64 v1)).setCell ⟨B, 2, none⟩ (.int .i64 v2)).setCell ⟨B, 3, none⟩ (.int .i64 v3)) B v0 v1 v2 v3 :=
  (((h.set0 v0).set1 v1).set2 v2).set3 v3
end
theorem Cells4.new (w : World) (a b x d : Int) (T : TypeId) : Cells4 T (w.alloc (.cells #[.int .i64 a, .int .i64 b, .int .i64 x, .int .i64 d] T)) w.heap.size a b x d := heap_alloc_new w _
end Go.Proofs.YtibbiddadkinhaaDoor

set_option linter.unusedVariables false
namespace Go.Proofs.YtibbiddadkinhaaDoor
open Go Go.Proofs Go.RowKit Go.Lib

set_option maxHeartbeats 1000000 in
theorem week_any (w : World) : Calls Tryd.prog 32 #[] w (Says (.agg #[.int .i64 5, .int .i64 10, .int .i64 480, .int .i64 45]) w) := by
  unfold Says
  go_enter Tryd.func32, Tryd.ntmps32
  go_wp2
  go_returns
  exact ⟨rfl, (Below.refl _ w).alloc (Nat.le_refl _) _⟩
def sOdd : Str := [77, 111, 32, 51, 45, 52, 32, 111, 100, 100]
def sEven : Str := [77, 111, 32, 52, 32, 101, 118, 101, 110]
def sAll : Str := [77, 111, 32, 52]
theorem read_odd : timeM 5 10 480 45 10 sOdd = ((341, 0, 2, 2), 0) := by decide +kernel
theorem read_even : timeM 5 10 480 45 10 sEven = ((682, 0, 3, 1), 0) := by decide +kernel
theorem read_all : timeM 5 10 480 45 10 sAll = ((1023, 0, 3, 1), 0) := by decide +kernel
theorem over_no : overB 341 0 2 2 682 0 3 1 = false := by decide +kernel
theorem over_yes : overB 341 0 2 2 1023 0 3 1 = true := by decide +kernel
theorem aparse {x : Str} {k y t l : Int} (h : timeM 5 10 480 45 10 x = ((k, y, t, l), 0)) (hx : x.length ≤ 100) (w : World) (hE : Env w) (hDy : Days w) :
    Calls Tryd.prog 29 #[.agg #[.int .i64 5, .int .i64 10, .int .i64 480, .int .i64 45], .int .i64 10, .string (ba x)] w (Says (.tuple #[.agg #[.int .i64 k, .int .i64 y, .int .i64 t, .int .i64 l], .int .i64 0]) w) := by
  have h1 := tparse_any 5 10 480 45 10 (ba x) (by rw [ba_size]; omega) w hE hDy
  rw [lst_ba, h] at h1
  exact h1

set_option maxHeartbeats 4000000 in
set_option maxRecDepth 100000 in
theorem tawake_any (w : World) (hE : Env w) (hDy : Days w) : Calls Tryd.prog 9 #[] w (Says (.bool true) w) := by
  have hsz := hE.size
  have HE := hid (fun w' (hb : Below w.heap.size w w') => hE.below hb hsz)
  have HD := hid (fun w' (hb : Below w.heap.size w w') => hDy.below hb hsz)
  have c1 := hid (fun w h h' => aparse read_odd (by decide) w h h')
  have c2 := hid (fun w h h' => aparse read_even (by decide) w h h')
  have c3 := hid (fun w h h' => aparse read_all (by decide) w h h')
  have o1 := fun w => overlap_any 341 0 2 2 682 0 3 1 (by omega) (by omega) w
  have o2 := fun w => overlap_any 341 0 2 2 1023 0 3 1 (by omega) (by omega) w
  rw [over_no] at o1
  rw [over_yes] at o2
  unfold Says at c1 c2 c3 o1 o2 ⊢
  have cW := week_any
  unfold Says at cW
  clear hE hDy
  go_enter Tryd.func9, Tryd.ntmps9
  go_wp2_with fail
  refine (cW _).mono ?_
  rintro e w1 ⟨rfl, hb1⟩
  have HB1 := hid hb1
  clear hb1
  go_wp2_with fail
  refine (c1.out _ (HE.out _ HB1.out) (HD.out _ HB1.out)).mono ?_
  rintro e w2 ⟨rfl, hb2⟩
  have HB2 := hid (HB1.out.trans (hb2.mono HB1.out.size))
  have hc1 := Cells4.new w2 341 0 2 2 25
  have HB2b : Hid (∀ W, Below w2.heap.size w2 W → Below w.heap.size w W) := hid (fun W h => HB2.out.trans (h.mono HB2.out.size))
  have hst := (Below.refl _ w2).alloc (Nat.le_refl _) (.cells #[.int .i64 341, .int .i64 0, .int .i64 2, .int .i64 2] 25)
  have HB3 := hid (HB2b.out _ hst)
  clear hb2 hst HB2b
  go_wp2_with fail
  refine (cW _).mono ?_
  rintro e w3 ⟨rfl, hb3⟩
  have HC1 := hid (hc1.under hb3)
  have HB4 := hid (HB3.out.trans (hb3.mono HB3.out.size))
  clear hb3 hc1 HB3
  generalize w2.heap.size = ta at HC1 ⊢
  go_wp2_with fail
  refine (c2.out _ (HE.out _ HB4.out) (HD.out _ HB4.out)).mono ?_
  rintro e w4 ⟨rfl, hb4⟩
  have HB5 := hid (HB4.out.trans (hb4.mono HB4.out.size))
  have hc1 := HC1.out.under hb4
  have hlt := hc1.lt
  have hc2 := Cells4.new w4 682 0 3 1 25
  have HB2b : Hid (∀ W, Below w4.heap.size w4 W → Below w.heap.size w W) := hid (fun W h => HB5.out.trans (h.mono HB5.out.size))
  have hst := (Below.refl _ w4).alloc (Nat.le_refl _) (.cells #[.int .i64 682, .int .i64 0, .int .i64 3, .int .i64 1] 25)
  have HC1 := hid (hc1.under hst)
  have HB3 := hid (HB2b.out _ hst)
  clear hb4 hst HB2b hc1 hlt
  go_wp2_with fail
  refine (cW _).mono ?_
  rintro e w5 ⟨rfl, hb3⟩
  have HC2 := hid (hc2.under hb3)
  have HC1 := hid (HC1.out.under hb3)
  have HB4 := hid (HB3.out.trans (hb3.mono HB3.out.size))
  clear hb3 hc2 HB3
  generalize w4.heap.size = tb at HC2 ⊢
  go_wp2_with fail
  refine (c3.out _ (HE.out _ HB4.out) (HD.out _ HB4.out)).mono ?_
  rintro e w6 ⟨rfl, hb4⟩
  have HB5 := hid (HB4.out.trans (hb4.mono HB4.out.size))
  have hc1 := HC1.out.under hb4
  have hc2 := HC2.out.under hb4
  have hc3 := Cells4.new w6 1023 0 3 1 25
  have HB2b : Hid (∀ W, Below w6.heap.size w6 W → Below w.heap.size w W) := hid (fun W h => HB5.out.trans (h.mono HB5.out.size))
  have hst := (Below.refl _ w6).alloc (Nat.le_refl _) (.cells #[.int .i64 1023, .int .i64 0, .int .i64 3, .int .i64 1] 25)
  have HC1 := hid (hc1.under hst)
  have HC2 := hid (hc2.under hst)
  have HC3 := hid hc3
  have HB3 := hid (HB2b.out _ hst)
  obtain ⟨a0, a1, a2, a3, _⟩ := HC1.out.box
  obtain ⟨b0, b1, b2, b3, _⟩ := HC2.out.box
  clear hb4 hst HB2b hc1 hc2 hc3
  go_wp2_with fail
  refine (o1 _).mono ?_
  rintro e w7 ⟨rfl, hb7⟩
  have HB7 := hid (HB3.out.trans (hb7.mono HB3.out.size))
  clear a0 a1 a2 a3 b0 b1 b2 b3
  obtain ⟨a0, a1, a2, a3, _⟩ := (HC1.out.under hb7).box
  obtain ⟨b0, b1, b2, b3, _⟩ := (HC3.out.under hb7).box
  clear hb7
  go_wp2_with fail
  refine (o2 _).mono ?_
  rintro e w8 ⟨rfl, hb8⟩
  have HB8 := hid (HB7.out.trans (hb8.mono HB7.out.size))
  clear hb8
  go_wp2
  go_ret
  exact ⟨rfl, HB8.out⟩
end Go.Proofs.YtibbiddadkinhaaDoor

set_option linter.unusedVariables false
namespace Go.Proofs.YtibbiddadkinhaaDoor
open Go Go.Proofs Go.RowKit Go.Lib

set_option maxHeartbeats 8000000 in
theorem rgvalid_any (d s b m : Int) (w : World) : Calls Tryd.prog 11 #[.agg #[.int .i64 d, .int .i64 s, .int .i64 b, .int .i64 m]] w (Says (.int .i64 (if gridB d s b m = true then 0 else 3)) w) := by
  unfold Says
  by_cases h0 : d < 1
  · have h0d : decide (d < 1) = true := decide_eq_true h0
    rw [show gridB d s b m = false from decide_eq_false (fun h => by obtain ⟨a1, a2, a3, a4, a5⟩ := h; omega), if_neg (by simp)]
    have HK := hid (K1.first w d s b m 23)
    go_enter Tryd.func11, Tryd.ntmps11
    go_wp2
    go_ret
    exact ⟨rfl, HK.out.b⟩
  · have h0d : decide (d < 1) = false := decide_eq_false h0
    by_cases h1 : 7 < d
    · have h1d : decide (7 < d) = true := decide_eq_true h1
      rw [show gridB d s b m = false from decide_eq_false (fun h => by obtain ⟨a1, a2, a3, a4, a5⟩ := h; omega), if_neg (by simp)]
      have HK := hid (K1.first w d s b m 23)
      go_enter Tryd.func11, Tryd.ntmps11
      go_wp2
      go_ret
      exact ⟨rfl, HK.out.b⟩
    · have h1d : decide (7 < d) = false := decide_eq_false h1
      by_cases h2 : s < 1
      · have h2d : decide (s < 1) = true := decide_eq_true h2
        rw [show gridB d s b m = false from decide_eq_false (fun h => by obtain ⟨a1, a2, a3, a4, a5⟩ := h; omega), if_neg (by simp)]
        have HK := hid (K1.first w d s b m 23)
        go_enter Tryd.func11, Tryd.ntmps11
        go_wp2
        go_ret
        exact ⟨rfl, HK.out.b⟩
      · have h2d : decide (s < 1) = false := decide_eq_false h2
        by_cases h3 : 24 < s
        · have h3d : decide (24 < s) = true := decide_eq_true h3
          rw [show gridB d s b m = false from decide_eq_false (fun h => by obtain ⟨a1, a2, a3, a4, a5⟩ := h; omega), if_neg (by simp)]
          have HK := hid (K1.first w d s b m 23)
          go_enter Tryd.func11, Tryd.ntmps11
          go_wp2
          go_ret
          exact ⟨rfl, HK.out.b⟩
        · have h3d : decide (24 < s) = false := decide_eq_false h3
          by_cases h4 : b < 0
          · have h4d : decide (b < 0) = true := decide_eq_true h4
            rw [show gridB d s b m = false from decide_eq_false (fun h => by obtain ⟨a1, a2, a3, a4, a5⟩ := h; omega), if_neg (by simp)]
            have HK := hid (K1.first w d s b m 23)
            go_enter Tryd.func11, Tryd.ntmps11
            go_wp2
            go_ret
            exact ⟨rfl, HK.out.b⟩
          · have h4d : decide (b < 0) = false := decide_eq_false h4
            by_cases h5 : 1439 < b
            · have h5d : decide (1439 < b) = true := decide_eq_true h5
              rw [show gridB d s b m = false from decide_eq_false (fun h => by obtain ⟨a1, a2, a3, a4, a5⟩ := h; omega), if_neg (by simp)]
              have HK := hid (K1.first w d s b m 23)
              go_enter Tryd.func11, Tryd.ntmps11
              go_wp2
              go_ret
              exact ⟨rfl, HK.out.b⟩
            · have h5d : decide (1439 < b) = false := decide_eq_false h5
              by_cases h6 : m < 5
              · have h6d : decide (m < 5) = true := decide_eq_true h6
                rw [show gridB d s b m = false from decide_eq_false (fun h => by obtain ⟨a1, a2, a3, a4, a5⟩ := h; omega), if_neg (by simp)]
                have HK := hid (K1.first w d s b m 23)
                go_enter Tryd.func11, Tryd.ntmps11
                go_wp2
                go_ret
                exact ⟨rfl, HK.out.b⟩
              · have h6d : decide (m < 5) = false := decide_eq_false h6
                by_cases h7 : 120 < m
                · have h7d : decide (120 < m) = true := decide_eq_true h7
                  rw [show gridB d s b m = false from decide_eq_false (fun h => by obtain ⟨a1, a2, a3, a4, a5⟩ := h; omega), if_neg (by simp)]
                  have HK := hid (K1.first w d s b m 23)
                  go_enter Tryd.func11, Tryd.ntmps11
                  go_wp2
                  go_ret
                  exact ⟨rfl, HK.out.b⟩
                · have h7d : decide (120 < m) = false := decide_eq_false h7
                  by_cases h8 : 1440 < b + s * m
                  · have h8d : decide (1440 < b + s * m) = true := decide_eq_true h8
                    have hm := mul_in (q := s) (m := m) (by omega) (by omega) (by omega) (by omega)
                    have e1 : IntKind.i64.wrap (s * m) = s * m := IntWalk.i64_in _ (by omega)
                    have e2 : IntKind.i64.wrap (b + s * m) = b + s * m := IntWalk.i64_in _ (by omega)
                    rw [show gridB d s b m = false from decide_eq_false (fun h => by obtain ⟨a1, a2, a3, a4, a5⟩ := h; omega), if_neg (by simp)]
                    skip
                    clear hm
                    have HK := hid (K1.first w d s b m 23)
                    go_enter Tryd.func11, Tryd.ntmps11
                    go_wp2
                    go_ret
                    exact ⟨rfl, HK.out.b⟩
                  · have h8d : decide (1440 < b + s * m) = false := decide_eq_false h8
                    have hm := mul_in (q := s) (m := m) (by omega) (by omega) (by omega) (by omega)
                    have e1 : IntKind.i64.wrap (s * m) = s * m := IntWalk.i64_in _ (by omega)
                    have e2 : IntKind.i64.wrap (b + s * m) = b + s * m := IntWalk.i64_in _ (by omega)
                    rw [show gridB d s b m = true from decide_eq_true ⟨by omega, by omega, by omega, by omega, by omega⟩, if_pos rfl]
                    skip
                    clear hm
                    have HK := hid (K1.first w d s b m 23)
                    go_enter Tryd.func11, Tryd.ntmps11
                    go_wp2
                    go_ret
                    exact ⟨rfl, HK.out.b⟩
set_option maxHeartbeats 8000000 in
theorem rsound_any (k y t l : Int) (w : World) : Calls Tryd.prog 13 #[.agg #[.int .i64 k, .int .i64 y, .int .i64 t, .int .i64 l]] w (Says (.bool (soundB k y t l)) w) := by
  have cV := fun w => rvalid_any k 20 w
  unfold Says
  cases hv : validM k 20 with
  | false =>
    rw [hv] at cV
    rw [sound_no (fun h => by have := h.1; rw [hv] at this; simp at this)]
    clear hv
    have HK := hid (K1.first w k y t l 25)
    go_enter Tryd.func13, Tryd.ntmps13
    go_wp2_with fail
    refine (cV _).mono ?_
    rintro e w1 ⟨rfl, q, hq⟩
    have hk := HK.out.next (show Below _ _ w1 by rw [hq]; exact Go.below_drewN (Below.refl _ _) q)
    clear hq HK
    obtain ⟨⟨x0, x1, x2, x3, _⟩, _⟩ := id hk
    go_wp2
    go_ret
    exact ⟨rfl, hk.b⟩
  | true =>
    rw [hv] at cV
    by_cases h0 : 0 ≤ y
    · have h0d : decide (0 ≤ y) = true := decide_eq_true h0
      by_cases h1 : y ≤ 6
      · have h1d : decide (y ≤ 6) = true := decide_eq_true h1
        by_cases h2 : 0 ≤ t
        · have h2d : decide (0 ≤ t) = true := decide_eq_true h2
          by_cases h3 : 1 ≤ l
          · have h3d : decide (1 ≤ l) = true := decide_eq_true h3
            by_cases h4 : t ≤ 24
            · have h4d : decide (t ≤ 24) = true := decide_eq_true h4
              by_cases h5 : l ≤ 24
              · have h5d : decide (l ≤ 24) = true := decide_eq_true h5
                by_cases h6 : t + l ≤ 24
                · have h6d : decide (t + l ≤ 24) = true := decide_eq_true h6
                  rw [sound_yes ⟨hv, by omega, by omega, by omega, by omega⟩]
                  clear hv
                  have HK := hid (K1.first w k y t l 25)
                  go_enter Tryd.func13, Tryd.ntmps13
                  go_wp2_with fail
                  refine (cV _).mono ?_
                  rintro e w1 ⟨rfl, q, hq⟩
                  have hk := HK.out.next (show Below _ _ w1 by rw [hq]; exact Go.below_drewN (Below.refl _ _) q)
                  clear hq HK
                  obtain ⟨⟨x0, x1, x2, x3, _⟩, _⟩ := id hk
                  go_wp2
                  go_ret
                  exact ⟨rfl, hk.b⟩
                · have h6d : decide (t + l ≤ 24) = false := decide_eq_false h6
                  rw [sound_no (fun h => by obtain ⟨a1, a2, a3, a4, a5⟩ := h; omega)]
                  clear hv
                  have HK := hid (K1.first w k y t l 25)
                  go_enter Tryd.func13, Tryd.ntmps13
                  go_wp2_with fail
                  refine (cV _).mono ?_
                  rintro e w1 ⟨rfl, q, hq⟩
                  have hk := HK.out.next (show Below _ _ w1 by rw [hq]; exact Go.below_drewN (Below.refl _ _) q)
                  clear hq HK
                  obtain ⟨⟨x0, x1, x2, x3, _⟩, _⟩ := id hk
                  go_wp2
                  go_ret
                  exact ⟨rfl, hk.b⟩
              · have h5d : decide (l ≤ 24) = false := decide_eq_false h5
                rw [sound_no (fun h => by obtain ⟨a1, a2, a3, a4, a5⟩ := h; omega)]
                clear hv
                have HK := hid (K1.first w k y t l 25)
                go_enter Tryd.func13, Tryd.ntmps13
                go_wp2_with fail
                refine (cV _).mono ?_
                rintro e w1 ⟨rfl, q, hq⟩
                have hk := HK.out.next (show Below _ _ w1 by rw [hq]; exact Go.below_drewN (Below.refl _ _) q)
                clear hq HK
                obtain ⟨⟨x0, x1, x2, x3, _⟩, _⟩ := id hk
                go_wp2
                go_ret
                exact ⟨rfl, hk.b⟩
            · have h4d : decide (t ≤ 24) = false := decide_eq_false h4
              rw [sound_no (fun h => by obtain ⟨a1, a2, a3, a4, a5⟩ := h; omega)]
              clear hv
              have HK := hid (K1.first w k y t l 25)
              go_enter Tryd.func13, Tryd.ntmps13
              go_wp2_with fail
              refine (cV _).mono ?_
              rintro e w1 ⟨rfl, q, hq⟩
              have hk := HK.out.next (show Below _ _ w1 by rw [hq]; exact Go.below_drewN (Below.refl _ _) q)
              clear hq HK
              obtain ⟨⟨x0, x1, x2, x3, _⟩, _⟩ := id hk
              go_wp2
              go_ret
              exact ⟨rfl, hk.b⟩
          · have h3d : decide (1 ≤ l) = false := decide_eq_false h3
            rw [sound_no (fun h => by obtain ⟨a1, a2, a3, a4, a5⟩ := h; omega)]
            clear hv
            have HK := hid (K1.first w k y t l 25)
            go_enter Tryd.func13, Tryd.ntmps13
            go_wp2_with fail
            refine (cV _).mono ?_
            rintro e w1 ⟨rfl, q, hq⟩
            have hk := HK.out.next (show Below _ _ w1 by rw [hq]; exact Go.below_drewN (Below.refl _ _) q)
            clear hq HK
            obtain ⟨⟨x0, x1, x2, x3, _⟩, _⟩ := id hk
            go_wp2
            go_ret
            exact ⟨rfl, hk.b⟩
        · have h2d : decide (0 ≤ t) = false := decide_eq_false h2
          rw [sound_no (fun h => by obtain ⟨a1, a2, a3, a4, a5⟩ := h; omega)]
          clear hv
          have HK := hid (K1.first w k y t l 25)
          go_enter Tryd.func13, Tryd.ntmps13
          go_wp2_with fail
          refine (cV _).mono ?_
          rintro e w1 ⟨rfl, q, hq⟩
          have hk := HK.out.next (show Below _ _ w1 by rw [hq]; exact Go.below_drewN (Below.refl _ _) q)
          clear hq HK
          obtain ⟨⟨x0, x1, x2, x3, _⟩, _⟩ := id hk
          go_wp2
          go_ret
          exact ⟨rfl, hk.b⟩
      · have h1d : decide (y ≤ 6) = false := decide_eq_false h1
        rw [sound_no (fun h => by obtain ⟨a1, a2, a3, a4, a5⟩ := h; omega)]
        clear hv
        have HK := hid (K1.first w k y t l 25)
        go_enter Tryd.func13, Tryd.ntmps13
        go_wp2_with fail
        refine (cV _).mono ?_
        rintro e w1 ⟨rfl, q, hq⟩
        have hk := HK.out.next (show Below _ _ w1 by rw [hq]; exact Go.below_drewN (Below.refl _ _) q)
        clear hq HK
        obtain ⟨⟨x0, x1, x2, x3, _⟩, _⟩ := id hk
        go_wp2
        go_ret
        exact ⟨rfl, hk.b⟩
    · have h0d : decide (0 ≤ y) = false := decide_eq_false h0
      rw [sound_no (fun h => by obtain ⟨a1, a2, a3, a4, a5⟩ := h; omega)]
      clear hv
      have HK := hid (K1.first w k y t l 25)
      go_enter Tryd.func13, Tryd.ntmps13
      go_wp2_with fail
      refine (cV _).mono ?_
      rintro e w1 ⟨rfl, q, hq⟩
      have hk := HK.out.next (show Below _ _ w1 by rw [hq]; exact Go.below_drewN (Below.refl _ _) q)
      clear hq HK
      obtain ⟨⟨x0, x1, x2, x3, _⟩, _⟩ := id hk
      go_wp2
      go_ret
      exact ⟨rfl, hk.b⟩
set_option maxHeartbeats 4000000 in
theorem usable_any (d s b m n : Int) (w : World) : Calls Tryd.prog 38 #[.agg #[.int .i64 d, .int .i64 s, .int .i64 b, .int .i64 m], .int .i64 n] w (Says (.bool (frameB d s b m n)) w) := by
  have cG := fun w => rgvalid_any d s b m w
  unfold Says at cG ⊢
  cases hg : gridB d s b m with
  | false =>
    rw [hg, if_neg (by simp)] at cG
    rw [frame_no (fun h => by rw [hg] at h; exact absurd h.1 (by simp))]
    clear hg
    have HK := hid (K1.first w d s b m 23)
    go_enter Tryd.func38, Tryd.ntmps38
    go_wp2_with fail
    refine (cG _).mono ?_
    rintro e w1 ⟨rfl, hb⟩
    have hk := HK.out.next hb
    clear hb HK
    go_wp2
    go_ret
    exact ⟨rfl, hk.b⟩
  | true =>
    rw [hg, if_pos rfl] at cG
    by_cases h0 : 1 ≤ n
    · have h0d : decide (1 ≤ n) = true := decide_eq_true h0
      by_cases h1 : n ≤ 20
      · have h1d : decide (n ≤ 20) = true := decide_eq_true h1
        rw [show frameB d s b m n = true from decide_eq_true ⟨hg, h0, h1⟩]
        clear hg
        have HK := hid (K1.first w d s b m 23)
        go_enter Tryd.func38, Tryd.ntmps38
        go_wp2_with fail
        refine (cG _).mono ?_
        rintro e w1 ⟨rfl, hb⟩
        have hk := HK.out.next hb
        clear hb HK
        go_wp2
        go_ret
        exact ⟨rfl, hk.b⟩
      · have h1d : decide (n ≤ 20) = false := decide_eq_false h1
        rw [frame_no (fun h => by omega)]
        clear hg
        have HK := hid (K1.first w d s b m 23)
        go_enter Tryd.func38, Tryd.ntmps38
        go_wp2_with fail
        refine (cG _).mono ?_
        rintro e w1 ⟨rfl, hb⟩
        have hk := HK.out.next hb
        clear hb HK
        go_wp2
        go_ret
        exact ⟨rfl, hk.b⟩
    · have h0d : decide (1 ≤ n) = false := decide_eq_false h0
      rw [frame_no (fun h => by omega)]
      clear hg
      have HK := hid (K1.first w d s b m 23)
      go_enter Tryd.func38, Tryd.ntmps38
      go_wp2_with fail
      refine (cG _).mono ?_
      rintro e w1 ⟨rfl, hb⟩
      have hk := HK.out.next hb
      clear hb HK
      go_wp2
      go_ret
      exact ⟨rfl, hk.b⟩
set_option maxHeartbeats 8000000 in
set_option maxRecDepth 100000 in
theorem rfits_any (d s b m n k y t l : Int) (w : World) : Calls Tryd.prog 15 #[.agg #[.int .i64 d, .int .i64 s, .int .i64 b, .int .i64 m], .int .i64 n, .agg #[.int .i64 k, .int .i64 y, .int .i64 t, .int .i64 l]] w (Says (.int .i64 (fitsM d s b m n k y t l)) w) := by
  have cF := fun w => usable_any d s b m n w
  have cS := fun w => rsound_any k y t l w
  have cV := fun w => rvalid_any k n w
  unfold Says at cF cS ⊢
  cases hf : frameB d s b m n with
  | false =>
    rw [show fitsM d s b m n k y t l = 1 by unfold fitsM; rw [if_neg (by rw [hf]; simp)]]
    rw [hf] at cF
    clear hf cS cV
    have HK := hid (K2.first w d s b m k y t l 23 25)
    go_enter Tryd.func15, Tryd.ntmps15
    go_wp2_with fail
    refine (cF _).mono ?_
    rintro e w1 ⟨rfl, hb⟩
    have hk := HK.out.next hb
    clear hb HK
    obtain ⟨⟨x0, x1, x2, x3, _⟩, ⟨y0, y1, y2, y3, _⟩, _⟩ := id hk
    go_wp2
    go_ret
    exact ⟨rfl, hk.b⟩
  | true =>
    rw [hf] at cF
    cases hs : soundB k y t l with
    | false =>
      rw [fits_no hf (fun h => by rw [hs] at h; exact absurd h.1 (by simp))]
      rw [hs] at cS
      clear hf hs cV
      have HK := hid (K2.first w d s b m k y t l 23 25)
      go_enter Tryd.func15, Tryd.ntmps15
      go_wp2_with fail
      refine (cF _).mono ?_
      rintro e w1 ⟨rfl, hb⟩
      have hk := HK.out.next hb
      clear hb HK
      obtain ⟨⟨x0, x1, x2, x3, _⟩, ⟨y0, y1, y2, y3, _⟩, _⟩ := id hk
      go_wp2_with fail
      refine (cS _).mono ?_
      rintro e w1 ⟨rfl, hb⟩
      have hk := hk.next hb
      clear hb
      obtain ⟨⟨x0, x1, x2, x3, _⟩, ⟨y0, y1, y2, y3, _⟩, _⟩ := id hk
      go_wp2
      go_ret
      exact ⟨rfl, hk.b⟩
    | true =>
      rw [hs] at cS
      obtain ⟨s1, s2, s3, s4, s5⟩ := sound_of hs
      cases hv : validM k n with
      | false =>
        rw [fits_no hf (fun h => by rw [hv] at h; exact absurd h.2.1 (by simp))]
        rw [hv] at cV
        clear hf hs hv s1
        have HK := hid (K2.first w d s b m k y t l 23 25)
        go_enter Tryd.func15, Tryd.ntmps15
        go_wp2_with fail
        refine (cF _).mono ?_
        rintro e w1 ⟨rfl, hb⟩
        have hk := HK.out.next hb
        clear hb HK
        obtain ⟨⟨x0, x1, x2, x3, _⟩, ⟨y0, y1, y2, y3, _⟩, _⟩ := id hk
        go_wp2_with fail
        refine (cS _).mono ?_
        rintro e w1 ⟨rfl, hb⟩
        have hk := hk.next hb
        clear hb
        obtain ⟨⟨x0, x1, x2, x3, _⟩, ⟨y0, y1, y2, y3, _⟩, _⟩ := id hk
        go_wp2_with fail
        refine (cV _).mono ?_
        rintro e w1 ⟨rfl, q, hq⟩
        have hk := hk.next (show Below _ _ w1 by rw [hq]; exact Go.below_drewN (Below.refl _ _) q)
        clear hq
        obtain ⟨⟨x0, x1, x2, x3, _⟩, ⟨y0, y1, y2, y3, _⟩, _⟩ := id hk
        go_wp2
        go_ret
        exact ⟨rfl, hk.b⟩
      | true =>
        rw [hv] at cV
        by_cases hy : d ≤ y
        · have hyd : decide (d ≤ y) = true := decide_eq_true hy
          rw [fits_no hf (fun h => by omega)]
          clear hf hs hv s1
          have HK := hid (K2.first w d s b m k y t l 23 25)
          go_enter Tryd.func15, Tryd.ntmps15
          go_wp2_with fail
          refine (cF _).mono ?_
          rintro e w1 ⟨rfl, hb⟩
          have hk := HK.out.next hb
          clear hb HK
          obtain ⟨⟨x0, x1, x2, x3, _⟩, ⟨y0, y1, y2, y3, _⟩, _⟩ := id hk
          go_wp2_with fail
          refine (cS _).mono ?_
          rintro e w1 ⟨rfl, hb⟩
          have hk := hk.next hb
          clear hb
          obtain ⟨⟨x0, x1, x2, x3, _⟩, ⟨y0, y1, y2, y3, _⟩, _⟩ := id hk
          go_wp2_with fail
          refine (cV _).mono ?_
          rintro e w1 ⟨rfl, q, hq⟩
          have hk := hk.next (show Below _ _ w1 by rw [hq]; exact Go.below_drewN (Below.refl _ _) q)
          clear hq
          obtain ⟨⟨x0, x1, x2, x3, _⟩, ⟨y0, y1, y2, y3, _⟩, _⟩ := id hk
          go_wp2
          go_ret
          exact ⟨rfl, hk.b⟩
        · have hyd : decide (d ≤ y) = false := decide_eq_false hy
          by_cases he : s < t + l
          · have hed : decide (s < t + l) = true := decide_eq_true he
            rw [fits_no hf (fun h => by omega)]
            clear hf hs hv s1
            have HK := hid (K2.first w d s b m k y t l 23 25)
            go_enter Tryd.func15, Tryd.ntmps15
            go_wp2_with fail
            refine (cF _).mono ?_
            rintro e w1 ⟨rfl, hb⟩
            have hk := HK.out.next hb
            clear hb HK
            obtain ⟨⟨x0, x1, x2, x3, _⟩, ⟨y0, y1, y2, y3, _⟩, _⟩ := id hk
            go_wp2_with fail
            refine (cS _).mono ?_
            rintro e w1 ⟨rfl, hb⟩
            have hk := hk.next hb
            clear hb
            obtain ⟨⟨x0, x1, x2, x3, _⟩, ⟨y0, y1, y2, y3, _⟩, _⟩ := id hk
            go_wp2_with fail
            refine (cV _).mono ?_
            rintro e w1 ⟨rfl, q, hq⟩
            have hk := hk.next (show Below _ _ w1 by rw [hq]; exact Go.below_drewN (Below.refl _ _) q)
            clear hq
            obtain ⟨⟨x0, x1, x2, x3, _⟩, ⟨y0, y1, y2, y3, _⟩, _⟩ := id hk
            go_wp2
            go_ret
            exact ⟨rfl, hk.b⟩
          · have hed : decide (s < t + l) = false := decide_eq_false he
            rw [show fitsM d s b m n k y t l = 0 by unfold fitsM; rw [if_pos hf, if_pos ⟨hs, hv, by omega, by omega⟩]]
            clear hf hs hv s1
            have HK := hid (K2.first w d s b m k y t l 23 25)
            go_enter Tryd.func15, Tryd.ntmps15
            go_wp2_with fail
            refine (cF _).mono ?_
            rintro e w1 ⟨rfl, hb⟩
            have hk := HK.out.next hb
            clear hb HK
            obtain ⟨⟨x0, x1, x2, x3, _⟩, ⟨y0, y1, y2, y3, _⟩, _⟩ := id hk
            go_wp2_with fail
            refine (cS _).mono ?_
            rintro e w1 ⟨rfl, hb⟩
            have hk := hk.next hb
            clear hb
            obtain ⟨⟨x0, x1, x2, x3, _⟩, ⟨y0, y1, y2, y3, _⟩, _⟩ := id hk
            go_wp2_with fail
            refine (cV _).mono ?_
            rintro e w1 ⟨rfl, q, hq⟩
            have hk := hk.next (show Below _ _ w1 by rw [hq]; exact Go.below_drewN (Below.refl _ _) q)
            clear hq
            obtain ⟨⟨x0, x1, x2, x3, _⟩, ⟨y0, y1, y2, y3, _⟩, _⟩ := id hk
            go_wp2
            go_ret
            exact ⟨rfl, hk.b⟩
end Go.Proofs.YtibbiddadkinhaaDoor

