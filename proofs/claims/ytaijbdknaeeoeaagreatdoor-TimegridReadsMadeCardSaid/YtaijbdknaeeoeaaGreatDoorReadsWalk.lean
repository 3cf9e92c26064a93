/-
  The walk of TimegridReads: the program and the specification agree on Parse, Format and Clock. Conditions: the variables hold what their text lays; the string fits into memory; the start is a number of 64 bits.
-/
import Derived.Test.YtaijbdknaeeoeaaGreatDoorG9F
import Derived.Test.YtaijbdknaeeoeaaGreatDoorG9B
import Derived.Test.YtaijbdknaeeoeaaGreatDoorG9D
import Derived.Test.YtaijbdknaeeoeaaGreatDoorG9E
import Derived.Test.YtaijbdknaeeoeaaGreatDoorG10
import Derived.Test.YtaijbdknaeeoeaaGreatDoorAw
set_option linter.unusedVariables false
namespace Go.Proofs.YtaijbdknaeeoeaaGreatDoor
open Go Go.Proofs Go.RowKit Go.Lib

theorem rtparse_any (d s b m N : Int) (x : ByteArray) (hz : x.size ≤ 4611686018427387904) (w : World) (hsz : 5 < w.heap.size) (hW : Words w) (hRD : RDays w) :
    Calls Tryz.prog 6 #[.agg #[.int .i64 d, .int .i64 s, .int .i64 b, .int .i64 m], .int .i64 N, .string x] w (TimeOut (timeM d s b m N (lst x)) w) := by
  by_cases hg : goodT (lst x)
  · cases h : has 45 (wSlots (lst x)) with
    | true => exact rtparse_both_g d s b m N x hz w hsz hW hRD h hg
    | false => exact rtparse_one_g d s b m N x hz w hsz hW hRD h hg
  · cases h : has 45 (wSlots (lst x)) with
    | true => exact rtparse_both_w d s b m N x hz w hsz hW hRD h hg
    | false => exact rtparse_one_w d s b m N x hz w hsz hW hRD h hg
end Go.Proofs.YtaijbdknaeeoeaaGreatDoor
set_option linter.unusedVariables false
namespace Go.Proofs.YtaijbdknaeeoeaaGreatDoor
open Go Go.Proofs Go.RowKit Go.Lib

set_option maxHeartbeats 8000000 in
set_option maxRecDepth 100000 in
theorem reads_any (d s b m : Int) (x : ByteArray) (hz : x.size ≤ 4611686018427387904) (k y t l : Int) (ht : t ≤ 9223372036854775807) (w : World) (hE : Env w) (hW : Words w) (hDy : Days w) (hRD : RDays w) :
    Calls Tryz.prog 3 #[.agg #[.int .i64 d, .int .i64 s, .int .i64 b, .int .i64 m], .string x, .agg #[.int .i64 k, .int .i64 y, .int .i64 t, .int .i64 l]] w fun e w' => e = .returned (.bool true) ∧ Below w.heap.size w w' := by
  have hsz := hE.size
  have up : ∀ {w' : World}, Below w.heap.size w w' → 5 < w'.heap.size := fun hb => Nat.lt_of_lt_of_le hsz hb.size
  have cA := hid (fun w' (hb : Below w.heap.size w w') => tparse_any d s b m l x hz w' (hE.below hb hsz) (hDy.below hb hsz))
  have cB := hid (fun w' (hb : Below w.heap.size w w') => rtparse_any d s b m l x hz w' (up hb) (hW.below hb hsz) (hRD.below hb hsz))
  have cC := hid (fun w' (hb : Below w.heap.size w w') => tformat_any d s b m l k y t l ht w' (hE.below hb hsz) (hDy.below hb hsz))
  have cD := hid (fun w' (hb : Below w.heap.size w w') => rtformat_any d s b m l k y t l w' (up hb) (hW.below hb hsz) (hRD.below hb hsz))
  have cE := hid (fun w' (hb : Below w.heap.size w w') => clock_any d s b m t w')
  have cF := hid (fun w' (hb : Below w.heap.size w w') => rclock_any d s b m t w')
  have cK := hid (fun w' (hb : Below w.heap.size w w') => tawake_any w' (hE.below hb hsz) (hDy.below hb hsz))
  have cA' := cA.out
  have cB' := cB.out
  have cC' := cC.out
  have cD' := cD.out
  have cE' := cE.out
  have cF' := cF.out
  have cK' := cK.out
  unfold TimeOut at cA' cB'
  unfold FormOut at cC' cD'
  unfold ClockOut at cE' cF'
  unfold Says at cK'
  obtain ⟨⟨⟨r0, r1, r2, r3⟩, re⟩, hR⟩ : ∃ R, timeM d s b m l (lst x) = R := ⟨_, rfl⟩
  obtain ⟨⟨fs, fe⟩, hF⟩ : ∃ R, textT d s b m l k y t l = R := ⟨_, rfl⟩
  obtain ⟨⟨h0, h1, h2⟩, hC⟩ : ∃ R, clockM d s b m t = R := ⟨_, rfl⟩
  rw [hR] at cA' cB'
  rw [hF] at cC' cD'
  rw [hC] at cE' cF'
  dsimp only at cA' cB' cC' cD' cE' cF'
  generalize ba fs = Fs at cC' cD'
  clear cA cB cC cD cE cF cK hR hF hC
  have cA := hid cA'
  have cB := hid cB'
  have cC := hid cC'
  have cD := hid cD'
  have cE := hid cE'
  have cF := hid cF'
  have cK := hid cK'
  have HK := hid (K2.first w d s b m k y t l 23 25)
  clear cA' cB' cC' cD' cE' cF' cK' hE hW hDy hRD up hsz
  go_enter Tryz.func3, Tryz.ntmps3
  go_wp2_with fail
  have hk := HK.out
  clear HK
  refine (cA.out _ hk.b).mono ?_
  rintro e w1 ⟨rfl, hb⟩
  have hk2 := hk.next hb
  have hba := (Below.refl _ w1).alloc (Nat.le_refl _) (.cells #[.int .i64 r0, .int .i64 r1, .int .i64 r2, .int .i64 r3] 25)
  have hT := Cells4.new w1 r0 r1 r2 r3 25
  have hk3 := hk2.next hba
  clear hb hk hk2 hba
  obtain ⟨⟨x0, x1, x2, x3, _⟩, ⟨y0, y1, y2, y3, _⟩, _⟩ := id hk3
  have HT := hid hT
  clear hT
  go_wp2_with fail
  refine (cB.out _ hk3.b).mono ?_
  rintro e w2 ⟨rfl, hb⟩
  clear x0 x1 x2 x3 y0 y1 y2 y3
  have hk4 := hk3.next hb
  have HT2 := hid (HT.out.under hb)
  have hba := (Below.refl _ w2).alloc (Nat.le_refl _) (.cells #[.int .i64 r0, .int .i64 r1, .int .i64 r2, .int .i64 r3] 25)
  have HT3 := hid (HT2.out.under hba)
  have HU3 := hid (Cells4.new w2 r0 r1 r2 r3 25)
  have hk := hk4.next hba
  clear hb hk3 hk4 hba HT HT2
  obtain ⟨⟨x0, x1, x2, x3, _⟩, ⟨y0, y1, y2, y3, _⟩, _⟩ := id hk
  go_wp2_with fail
  refine (cC.out _ hk.b).mono ?_
  rintro e w3 ⟨rfl, hb⟩
  clear x0 x1 x2 x3 y0 y1 y2 y3
  have hk5 := hk.next hb
  have HT4 := hid (HT3.out.under hb)
  have HU4 := hid (HU3.out.under hb)
  clear hb hk HT3 HU3
  obtain ⟨⟨x0, x1, x2, x3, _⟩, ⟨y0, y1, y2, y3, _⟩, _⟩ := id hk5
  go_wp2_with fail
  refine (cD.out _ hk5.b).mono ?_
  rintro e w4 ⟨rfl, hb⟩
  clear x0 x1 x2 x3 y0 y1 y2 y3
  have hk := hk5.next hb
  have HT3 := hid (HT4.out.under hb)
  have HU3 := hid (HU4.out.under hb)
  clear hb hk5 HT4 HU4
  obtain ⟨⟨x0, x1, x2, x3, _⟩, ⟨y0, y1, y2, y3, _⟩, _⟩ := id hk
  go_wp2_with fail
  refine (cE.out _ hk.b).mono ?_
  rintro e w5 ⟨rfl, hb⟩
  clear x0 x1 x2 x3 y0 y1 y2 y3
  have hk5 := hk.next hb
  have HT4 := hid (HT3.out.under hb)
  have HU4 := hid (HU3.out.under hb)
  clear hb hk HT3 HU3
  obtain ⟨⟨x0, x1, x2, x3, _⟩, ⟨y0, y1, y2, y3, _⟩, _⟩ := id hk5
  go_wp2_with fail
  refine (cF.out _ hk5.b).mono ?_
  rintro e w6 ⟨rfl, hb⟩
  clear x0 x1 x2 x3 y0 y1 y2 y3
  have hk := hk5.next hb
  have HT3 := hid (HT4.out.under hb)
  have HU3 := hid (HU4.out.under hb)
  clear hb hk5 HT4 HU4
  go_wp2_with fail
  refine (cK.out _ hk.b).mono ?_
  rintro e w7 ⟨rfl, hb⟩
  have hk5 := hk.next hb
  obtain ⟨t0, t1, t2, t3, _⟩ := (HT3.out.under hb).box
  obtain ⟨u0, u1, u2, u3, _⟩ := (HU3.out.under hb).box
  clear hb hk HT3 HU3
  go_wp2
  go_ret
  exact ⟨rfl, hk5.b⟩
end Go.Proofs.YtaijbdknaeeoeaaGreatDoor
