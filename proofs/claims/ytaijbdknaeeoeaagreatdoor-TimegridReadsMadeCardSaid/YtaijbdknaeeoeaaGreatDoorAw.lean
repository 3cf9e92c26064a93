/-
  The sanity check of the statements about times of the week. Conditions: the variables hold what their text lays.
-/
import Derived.Test.YtaijbdknaeeoeaaGreatDoorG6
import Derived.Test.YtaijbdknaeeoeaaGreatDoorG2
import Derived.Test.YtaijbdknaeeoeaaGreatDoorM1
set_option linter.unusedVariables false
namespace Go.Proofs.YtaijbdknaeeoeaaGreatDoor
open Go Go.Proofs Go.RowKit Go.Lib

set_option maxHeartbeats 1000000 in
theorem week_any (w : World) : Calls Tryz.prog 41 #[] w (Says (.agg #[.int .i64 5, .int .i64 10, .int .i64 480, .int .i64 45]) w) := by
  unfold Says
  go_enter Tryz.func41, Tryz.ntmps41
  go_wp2
  go_returns
  exact ⟨rfl, (Below.refl _ w).alloc (Nat.le_refl _) _⟩
def sOdd : Str := [77, 111, 32, 51, 45, 52, 32, 111, 100, 100]
def sEven : Str := [77, 111, 32, 52, 32, 101, 118, 101, 110]
def sAll : Str := [77, 111, 32, 52]
theorem read_odd : timeM 5 10 480 45 10 sOdd = ((341, 0, 2, 2), 0) := by decide +kernel
theorem read_even : timeM 5 10 480 45 10 sEven = ((682, 0, 3, 1), 0) := by decide +kernel
theorem read_all : timeM 5 10 480 45 10 sAll = ((1023, 0, 3, 1), 0) := by decide +kernel
theorem over_no : overB 341 0 2 2 682 0 3 1 = false := by decide +kernel
theorem over_yes : overB 341 0 2 2 1023 0 3 1 = true := by decide +kernel
theorem aparse {x : Str} {k y t l : Int} (h : timeM 5 10 480 45 10 x = ((k, y, t, l), 0)) (hx : x.length ≤ 100) (w : World) (hE : Env w) (hDy : Days w) :
    Calls Tryz.prog 5 #[.agg #[.int .i64 5, .int .i64 10, .int .i64 480, .int .i64 45], .int .i64 10, .string (ba x)] w (Says (.tuple #[.agg #[.int .i64 k, .int .i64 y, .int .i64 t, .int .i64 l], .int .i64 0]) w) := by
  have h1 := tparse_any 5 10 480 45 10 (ba x) (by rw [ba_size]; omega) w hE hDy
  rw [lst_ba, h] at h1
  exact h1

set_option maxHeartbeats 4000000 in
set_option maxRecDepth 100000 in
theorem tawake_any (w : World) (hE : Env w) (hDy : Days w) : Calls Tryz.prog 11 #[] w (Says (.bool true) w) := by
  have hsz := hE.size
  have HE := hid (fun w' (hb : Below w.heap.size w w') => hE.below hb hsz)
  have HD := hid (fun w' (hb : Below w.heap.size w w') => hDy.below hb hsz)
  have c1 := hid (fun w h h' => aparse read_odd (by decide) w h h')
  have c2 := hid (fun w h h' => aparse read_even (by decide) w h h')
  have c3 := hid (fun w h h' => aparse read_all (by decide) w h h')
  have o1 := fun w => overlap_any 341 0 2 2 682 0 3 1 (by omega) (by omega) w
  have o2 := fun w => overlap_any 341 0 2 2 1023 0 3 1 (by omega) (by omega) w
  rw [over_no] at o1
  rw [over_yes] at o2
  unfold Says at c1 c2 c3 o1 o2 ⊢
  have cW := week_any
  unfold Says at cW
  clear hE hDy
  go_enter Tryz.func11, Tryz.ntmps11
  go_wp2_with fail
  refine (cW _).mono ?_
  rintro e w1 ⟨rfl, hb1⟩
  have HB1 := hid hb1
  clear hb1
  go_wp2_with fail
  refine (c1.out _ (HE.out _ HB1.out) (HD.out _ HB1.out)).mono ?_
  rintro e w2 ⟨rfl, hb2⟩
  have HB2 := hid (HB1.out.trans (hb2.mono HB1.out.size))
  have hc1 := Cells4.new w2 341 0 2 2 25
  have HB2b : Hid (∀ W, Below w2.heap.size w2 W → Below w.heap.size w W) := hid (fun W h => HB2.out.trans (h.mono HB2.out.size))
  have hst := (Below.refl _ w2).alloc (Nat.le_refl _) (.cells #[.int .i64 341, .int .i64 0, .int .i64 2, .int .i64 2] 25)
  have HB3 := hid (HB2b.out _ hst)
  clear hb2 hst HB2b
  go_wp2_with fail
  refine (cW _).mono ?_
  rintro e w3 ⟨rfl, hb3⟩
  have HC1 := hid (hc1.under hb3)
  have HB4 := hid (HB3.out.trans (hb3.mono HB3.out.size))
  clear hb3 hc1 HB3
  generalize w2.heap.size = ta at HC1 ⊢
  go_wp2_with fail
  refine (c2.out _ (HE.out _ HB4.out) (HD.out _ HB4.out)).mono ?_
  rintro e w4 ⟨rfl, hb4⟩
  have HB5 := hid (HB4.out.trans (hb4.mono HB4.out.size))
  have hc1 := HC1.out.under hb4
  have hlt := hc1.lt
  have hc2 := Cells4.new w4 682 0 3 1 25
  have HB2b : Hid (∀ W, Below w4.heap.size w4 W → Below w.heap.size w W) := hid (fun W h => HB5.out.trans (h.mono HB5.out.size))
  have hst := (Below.refl _ w4).alloc (Nat.le_refl _) (.cells #[.int .i64 682, .int .i64 0, .int .i64 3, .int .i64 1] 25)
  have HC1 := hid (hc1.under hst)
  have HB3 := hid (HB2b.out _ hst)
  clear hb4 hst HB2b hc1 hlt
  go_wp2_with fail
  refine (cW _).mono ?_
  rintro e w5 ⟨rfl, hb3⟩
  have HC2 := hid (hc2.under hb3)
  have HC1 := hid (HC1.out.under hb3)
  have HB4 := hid (HB3.out.trans (hb3.mono HB3.out.size))
  clear hb3 hc2 HB3
  generalize w4.heap.size = tb at HC2 ⊢
  go_wp2_with fail
  refine (c3.out _ (HE.out _ HB4.out) (HD.out _ HB4.out)).mono ?_
  rintro e w6 ⟨rfl, hb4⟩
  have HB5 := hid (HB4.out.trans (hb4.mono HB4.out.size))
  have hc1 := HC1.out.under hb4
  have hc2 := HC2.out.under hb4
  have hc3 := Cells4.new w6 1023 0 3 1 25
  have HB2b : Hid (∀ W, Below w6.heap.size w6 W → Below w.heap.size w W) := hid (fun W h => HB5.out.trans (h.mono HB5.out.size))
  have hst := (Below.refl _ w6).alloc (Nat.le_refl _) (.cells #[.int .i64 1023, .int .i64 0, .int .i64 3, .int .i64 1] 25)
  have HC1 := hid (hc1.under hst)
  have HC2 := hid (hc2.under hst)
  have HC3 := hid hc3
  have HB3 := hid (HB2b.out _ hst)
  obtain ⟨a0, a1, a2, a3, _⟩ := HC1.out.box
  obtain ⟨b0, b1, b2, b3, _⟩ := HC2.out.box
  clear hb4 hst HB2b hc1 hc2 hc3
  go_wp2_with fail
  refine (o1 _).mono ?_
  rintro e w7 ⟨rfl, hb7⟩
  have HB7 := hid (HB3.out.trans (hb7.mono HB3.out.size))
  clear a0 a1 a2 a3 b0 b1 b2 b3
  obtain ⟨a0, a1, a2, a3, _⟩ := (HC1.out.under hb7).box
  obtain ⟨b0, b1, b2, b3, _⟩ := (HC3.out.under hb7).box
  clear hb7
  go_wp2_with fail
  refine (o2 _).mono ?_
  rintro e w8 ⟨rfl, hb8⟩
  have HB8 := hid (HB7.out.trans (hb8.mono HB7.out.size))
  clear hb8
  go_wp2
  go_ret
  exact ⟨rfl, HB8.out⟩
end Go.Proofs.YtaijbdknaeeoeaaGreatDoor
