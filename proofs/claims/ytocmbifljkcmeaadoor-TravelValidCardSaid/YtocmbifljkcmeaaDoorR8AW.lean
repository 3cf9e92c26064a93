/-
  The sanity check of the laws of travel. Conditions: the library's variable holds an error.
-/
import Derived.Test.YtocmbifljkcmeaaDoorR8RD
import Derived.Test.YtocmbifljkcmeaaDoorR8Q
import Derived.Test.YtocmbifljkcmeaaDoorR8O
import Derived.Test.YtocmbifljkcmeaaDoorR8H
set_option linter.unusedVariables false
namespace Go.Proofs.YtocmbifljkcmeaaDoor
open Go Go.Proofs Go.RowKit Go.Lib

def aw8Rows : List (List Str) := [[[65], [66], [49]], [[66], [67], [50]]]
def aw8T : TabD := ([[65], [66], [67]], [[0, 1, -1], [1, 0, 2], [-1, 2, 0]])
def aw8C : TabD := ([[65], [66], [67]], [[0, 1, 3], [1, 0, 2], [3, 2, 0]])
theorem aw8Read : readT (plainM aw8Rows) = (aw8T, []) := by kernel_rfl
theorem aw8Close : closeM aw8T = (aw8C, 0) := by kernel_rfl
theorem aw8B1 : betwM aw8T [65] [67] = 0 := by kernel_rfl
theorem aw8B2 : betwM aw8C [65] [67] = 3 := by kernel_rfl
theorem aw8B3 : betwM aw8C [67] [66] = 2 := by kernel_rfl
def awS (x y z : UInt8) : Array Value := #[.string ⟨#[x]⟩, .string ⟨#[y]⟩, .string ⟨#[z]⟩]
theorem aw8_rows (w : World) : ∃ w2, w2 = ((w.alloc (.cells #[.string ⟨#[65]⟩, .string ⟨#[66]⟩, .string ⟨#[49]⟩] 9)).alloc (.cells #[.string ⟨#[66]⟩, .string ⟨#[67]⟩, .string ⟨#[50]⟩] 9)).alloc (.cells #[.slice (some ⟨w.heap.size, 0, none⟩) 3 3, .slice (some ⟨w.heap.size + 1, 0, none⟩) 3 3] 22) ∧
    RowsIn w2 (fun k => k < w.heap.size + 3) (some ⟨w.heap.size + 2, 0, none⟩) aw8Rows ∧ Below w.heap.size w w2 ∧ w2.heap.size = w.heap.size + 3 := by
  refine ⟨_, rfl, ?_, (((Below.refl _ w).alloc (Nat.le_refl _) _).alloc (by simp) _).alloc (by simp; omega) _, by simp⟩
  have e1 := heap_alloc_new w (.cells #[.string ⟨#[65]⟩, .string ⟨#[66]⟩, .string ⟨#[49]⟩] 9)
  have hs1 : (w.alloc (.cells #[.string ⟨#[65]⟩, .string ⟨#[66]⟩, .string ⟨#[49]⟩] 9)).heap.size = w.heap.size + 1 := by simp
  generalize w.alloc (.cells #[.string ⟨#[65]⟩, .string ⟨#[66]⟩, .string ⟨#[49]⟩] 9) = w1 at e1 hs1 ⊢
  have e2 := heap_alloc_new w1 (.cells #[.string ⟨#[66]⟩, .string ⟨#[67]⟩, .string ⟨#[50]⟩] 9)
  have hs2 : (w1.alloc (.cells #[.string ⟨#[66]⟩, .string ⟨#[67]⟩, .string ⟨#[50]⟩] 9)).heap.size = w1.heap.size + 1 := by simp
  have f1 := (Below.heap_alloc w1 (.cells #[.string ⟨#[66]⟩, .string ⟨#[67]⟩, .string ⟨#[50]⟩] 9) w.heap.size (by omega)).trans e1
  generalize w1.alloc (.cells #[.string ⟨#[66]⟩, .string ⟨#[67]⟩, .string ⟨#[50]⟩] 9) = w2 at e2 hs2 f1 ⊢
  rw [hs1] at e2
  have e3 := heap_alloc_new w2 (.cells #[.slice (some ⟨w.heap.size, 0, none⟩) 3 3, .slice (some ⟨w.heap.size + 1, 0, none⟩) 3 3] 22)
  have g1 := (Below.heap_alloc w2 (.cells #[.slice (some ⟨w.heap.size, 0, none⟩) 3 3, .slice (some ⟨w.heap.size + 1, 0, none⟩) 3 3] 22) w.heap.size (by omega)).trans f1
  have g2 := (Below.heap_alloc w2 (.cells #[.slice (some ⟨w.heap.size, 0, none⟩) 3 3, .slice (some ⟨w.heap.size + 1, 0, none⟩) 3 3] 22) (w.heap.size + 1) (by omega)).trans e2
  rw [show w2.heap.size = w.heap.size + 2 by omega] at e3
  refine .inr ⟨w.heap.size + 2, 0, rfl, by omega, fun j l hj => ?_⟩
  match j, hj with
  | 0, hj =>
    obtain rfl : [[65], [66], [49]] = l := by simpa [aw8Rows] using hj
    refine ⟨some ⟨w.heap.size, 0, none⟩, 3, by rw [Lib.cell_of_heap e3]; rfl, by decide, by decide, .inr ⟨w.heap.size, 0, rfl, by omega, fun j s hj => ?_⟩⟩
    match j, hj with
    | 0, hj => obtain rfl : [65] = s := by simpa using hj
               rw [Lib.cell_of_heap g1]; rfl
    | 1, hj => obtain rfl : [66] = s := by simpa using hj
               rw [Lib.cell_of_heap g1]; rfl
    | 2, hj => obtain rfl : [49] = s := by simpa using hj
               rw [Lib.cell_of_heap g1]; rfl
    | j + 3, hj => simp at hj
  | 1, hj =>
    obtain rfl : [[66], [67], [50]] = l := by simpa [aw8Rows] using hj
    refine ⟨some ⟨w.heap.size + 1, 0, none⟩, 3, by rw [Lib.cell_of_heap e3]; rfl, by decide, by decide, .inr ⟨w.heap.size + 1, 0, rfl, by omega, fun j s hj => ?_⟩⟩
    match j, hj with
    | 0, hj => obtain rfl : [66] = s := by simpa using hj
               rw [Lib.cell_of_heap g2]; rfl
    | 1, hj => obtain rfl : [67] = s := by simpa using hj
               rw [Lib.cell_of_heap g2]; rfl
    | 2, hj => obtain rfl : [50] = s := by simpa using hj
               rw [Lib.cell_of_heap g2]; rfl
    | j + 3, hj => simp at hj
  | j + 2, hj => simp [aw8Rows] at hj
set_option maxHeartbeats 16000000 in
set_option maxRecDepth 100000 in
theorem awake8_any (w : World) (hE : Env8 w) : Calls Tryd.prog 5 #[] w (Says (.bool true) w) := by
  obtain ⟨w2, hw2, hrows, hb2, hs2⟩ := aw8_rows w
  have cP := plain_any (some ⟨w.heap.size + 2, 0, none⟩) aw8Rows 2 (w.heap.size + 3) w2 (by omega) hrows (by decide) (by decide) (by decide)
  have CP := hid cP
  have HB2 := hid hb2
  clear cP hb2 hrows
  unfold Says
  go_enter Tryd.func5, Tryd.ntmps5
  go_wp2_with fail
  (try rw [← hw2])
  refine CP.out.mono ?_
  rintro e w3 ⟨⟨v, rfl, hrr⟩, hb3⟩
  obtain ⟨A3, c3, rfl, hl3, hc3, hrin⟩ := hrr.recsIn
  have hB3 : Below w.heap.size w w3 := HB2.out.trans (hb3.mono HB2.out.size)
  have cR := read8_any A3 (plainM aw8Rows) c3 w3 (hrin.mono (fun k hk => hk.2)) (by rw [plainM_len]; decide) (hE.below hB3 hE.size)
  rw [aw8Read, plainM_len] at cR
  rw [plainM_len]
  unfold ReadOut8 at cR
  have CR := hid cR
  have HB3 := hid hB3
  clear cR CP hw2 hB3 hb3 hrr hrin hl3 hE HB2
  go_wp2_with fail
  refine CR.out.mono ?_
  rintro e w4 ⟨⟨A, c, S, d, v2, rfl, hT, hc1, hc2, hpr⟩, hb4⟩
  have hv2 : ∃ A5 c5, v2 = .slice A5 0 c5 := by
    rcases hpr.2 with ⟨hv, _⟩ | ⟨g, cap, cur, hv, _⟩
    · exact ⟨_, _, hv⟩
    · exact ⟨_, _, hv⟩
  obtain ⟨A5, c5, rfl⟩ := hv2
  have hb5 := (Below.refl w4.heap.size w4).alloc (Nat.le_refl _) (.cells #[.slice A aw8T.1.length c, .slice S aw8T.2.length d] 25)
  have hx5 := Box2.new w4 25 (.slice A aw8T.1.length c) (.slice S aw8T.2.length d)
  have hB4 : Below w.heap.size w w4 := HB3.out.trans (hb4.mono HB3.out.size)
  have hT4 : TravIn w4 (fun b => b < w4.heap.size) A S aw8T := hT.mono (fun b hb => hb.2)
  have hs5 : (w4.alloc (.cells #[.slice A aw8T.1.length c, .slice S aw8T.2.length d] 25)).heap.size = w4.heap.size + 1 := by simp
  obtain ⟨w5, hw5⟩ : ∃ W, w4.alloc (.cells #[.slice A aw8T.1.length c, .slice S aw8T.2.length d] 25) = W := ⟨_, rfl⟩
  rw [hw5] at hb5 hx5 hs5
  have hT5 : TravIn w5 (fun b => b < w4.heap.size) A S aw8T := hT4.below hb5
  have cC := tclose_any A S aw8T.1 aw8T.2 c d w5 (hT5.mono (fun b hb => by omega)) hc1 hc2 (by decide)
  rw [show (aw8T.1, aw8T.2) = aw8T from rfl, aw8Close] at cC
  unfold CloseOut at cC
  have hT5h := hid hT5
  have CC := hid cC
  have HX5 := hid hx5
  have HB5 := hid (hB4.trans (hb5.mono hB4.size))
  have HS5 := hid hs5
  have y0 := hx5.c0
  have y1 := hx5.c1
  clear cC hT5 hx5 hb5 hB4 hT4 hs5 hT hpr hb4 HB3 CR hc1 hc2
  go_wp2_with fail
  (try rw [hw5])
  clear hw5
  refine CC.out.mono ?_
  rintro e w6 ⟨⟨A6, c6, S6, d6, rfl, hT6⟩, hb6⟩
  have hb7 := (Below.refl w6.heap.size w6).alloc (Nat.le_refl _) (.cells #[.slice A6 aw8C.1.length c6, .slice S6 aw8C.2.length d6] 25)
  have hx7 := Box2.new w6 25 (.slice A6 aw8C.1.length c6) (.slice S6 aw8C.2.length d6)
  have hs7 : (w6.alloc (.cells #[.slice A6 aw8C.1.length c6, .slice S6 aw8C.2.length d6] 25)).heap.size = w6.heap.size + 1 := by simp
  obtain ⟨w7, hw7⟩ : ∃ W, w6.alloc (.cells #[.slice A6 aw8C.1.length c6, .slice S6 aw8C.2.length d6] 25) = W := ⟨_, rfl⟩
  rw [hw7] at hb7 hx7 hs7
  have hb57 : Below w5.heap.size w5 w7 := hb6.trans (hb7.mono hb6.size)
  have hs67 := hb6.size
  have hT7 : TravIn w7 (fun b => b < w7.heap.size) A S aw8T := (hT5h.out.kept (fun b hb => hb57.block b (by have := HS5.out; omega))).mono (fun b hb => by have := HS5.out; have := hb57.size; omega)
  have hC7 : TravIn w7 (fun b => b < w7.heap.size) A6 S6 aw8C := (hT6.kept (fun b hb => hb7.block b hb.2)).mono (fun b hb => by omega)
  have hX57 := HX5.out.next hb57
  have hB1 : ∀ W, Below w7.heap.size w7 W → Calls Tryd.prog 14 #[.agg #[.slice A aw8T.1.length c, .slice S aw8T.2.length d], .string ⟨#[65]⟩, .string ⟨#[67]⟩] W fun e w' => e = .returned (.int .i64 0) ∧ Below W.heap.size W w' := fun W hW => by
    have h := tbetw_any A S aw8T.1 aw8T.2 c d ⟨#[65]⟩ ⟨#[67]⟩ W ((hT7.below hW).mono (fun b hb => Nat.lt_of_lt_of_le hb hW.size)) (by decide) (by decide)
    rw [show (aw8T.1, aw8T.2) = aw8T from rfl, show lst ⟨#[65]⟩ = [65] from rfl, show lst ⟨#[67]⟩ = [67] from rfl, aw8B1] at h
    exact h
  have hB2 : ∀ W, Below w7.heap.size w7 W → Calls Tryd.prog 14 #[.agg #[.slice A6 aw8C.1.length c6, .slice S6 aw8C.2.length d6], .string ⟨#[65]⟩, .string ⟨#[67]⟩] W fun e w' => e = .returned (.int .i64 3) ∧ Below W.heap.size W w' := fun W hW => by
    have h := tbetw_any A6 S6 aw8C.1 aw8C.2 c6 d6 ⟨#[65]⟩ ⟨#[67]⟩ W ((hC7.below hW).mono (fun b hb => Nat.lt_of_lt_of_le hb hW.size)) (by decide) (by decide)
    rw [show (aw8C.1, aw8C.2) = aw8C from rfl, show lst ⟨#[65]⟩ = [65] from rfl, show lst ⟨#[67]⟩ = [67] from rfl, aw8B2] at h
    exact h
  have hB3 : ∀ W, Below w7.heap.size w7 W → Calls Tryd.prog 14 #[.agg #[.slice A6 aw8C.1.length c6, .slice S6 aw8C.2.length d6], .string ⟨#[67]⟩, .string ⟨#[66]⟩] W fun e w' => e = .returned (.int .i64 2) ∧ Below W.heap.size W w' := fun W hW => by
    have h := tbetw_any A6 S6 aw8C.1 aw8C.2 c6 d6 ⟨#[67]⟩ ⟨#[66]⟩ W ((hC7.below hW).mono (fun b hb => Nat.lt_of_lt_of_le hb hW.size)) (by decide) (by decide)
    rw [show (aw8C.1, aw8C.2) = aw8C from rfl, show lst ⟨#[67]⟩ = [67] from rfl, show lst ⟨#[66]⟩ = [66] from rfl, aw8B3] at h
    exact h
  have HC1 := hid hB1
  have HC2 := hid hB2
  have HC3 := hid hB3
  have HX57 := hid hX57
  have HX7 := hid hx7
  have HBW7 := hid (HB5.out.trans (hb57.mono HB5.out.size))
  have q0 := hX57.c0
  have q1 := hX57.c1
  obtain ⟨x0, hx0⟩ : ∃ v, Value.slice A aw8T.1.length c = v := ⟨_, rfl⟩
  clear hx0 x0
  clear hB1 hB2 hB3 hX57 hx7 hb7 hs7 hT7 hC7 hb57 hs67 hT6 hb6 hT5h CC HX5 y0 y1
  go_upto_region 3 with fail
  (try rw [hw7])
  clear hw7
  go_wp2_with fail
  refine (HC1.out _ (Below.refl _ _)).mono ?_
  rintro e w8 ⟨rfl, hb8⟩
  have z0 := (HX7.out.next hb8).c0
  have z1 := (HX7.out.next hb8).c1
  have HB8 := hid hb8
  clear hb8 q0 q1
  go_wp2_with fail
  refine (HC2.out _ HB8.out).mono ?_
  rintro e w9 ⟨rfl, hb9⟩
  have hb79 := HB8.out.trans (hb9.mono HB8.out.size)
  have p0 := (HX7.out.next hb79).c0
  have p1 := (HX7.out.next hb79).c1
  have HB9 := hid hb79
  clear hb9 hb79 z0 z1
  go_wp2_with fail
  refine (HC3.out _ HB9.out).mono ?_
  rintro e w10 ⟨rfl, hb10⟩
  have HB10 := hid (HBW7.out.trans ((HB9.out.trans (hb10.mono HB9.out.size)).mono HBW7.out.size))
  clear hb10 p0 p1
  go_wp2
  go_ret
  exact ⟨rfl, HB10.out⟩
end Go.Proofs.YtocmbifljkcmeaaDoor
