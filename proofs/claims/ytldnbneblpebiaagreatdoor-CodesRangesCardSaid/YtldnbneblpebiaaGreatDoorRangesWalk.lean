/-
  The walk of CodesRanges: List of a made range gives its codes, at any three numbers. Conditions: the library's variables hold what its text lays.
-/
import Derived.Test.YtldnbneblpebiaaGreatDoorRangesM
import Derived.Test.YtldnbneblpebiaaGreatDoorWide
import Derived.Test.YtldnbneblpebiaaGreatDoorAwake
set_option linter.unusedVariables false
namespace Go.Proofs.YtldnbneblpebiaaGreatDoor
open Go Go.Proofs Go.RowKit Go.Lib

theorem ba_of {R : ByteArray} {l : Str} (h : lst R = l) : R = ba l := by
  rw [← h]; cases R; rfl
theorem wide_ba (n k : Nat) (hn : n < 2147483648) (hk : k ≤ 16) (w : World) : Calls Tryz.prog 25 #[.int .i64 (n : Int), .int .i64 (k : Int)] w fun e w' => e = .returned (.string (ba (wrS n k))) ∧ Below w.heap.size w w' :=
  (wide_any n k hn hk w).mono fun e w' ⟨⟨R, he, hl⟩, hb⟩ => ⟨by rw [he, ba_of hl], hb⟩
theorem ba_size (l : Str) : (ba l).size = l.length := rfl
theorem ba_add (a b : Str) : ba a ++ ba b = ba (a ++ b) := (ba_of (by rw [lst_add]; rfl))
/-- While the codes are looked at. -/
structure RK (w W1 wr : World) : Prop where
  b : Below w.heap.size w wr
  c : Below W1.heap.size W1 wr
theorem RK.step {w W1 wr w2 : World} (h : RK w W1 wr) (hb : Below wr.heap.size wr w2) : RK w W1 w2 := ⟨h.b.trans (hb.mono h.b.size), h.c.trans (hb.mono h.c.size)⟩
theorem RK.drew {w W1 wr : World} (h : RK w W1 wr) : RK w W1 wr.drew := ⟨h.b.drew, h.c.drew⟩
theorem RK.at_ {w W1 wr : World} (h : RK w W1 wr) {b off i : Nat} {v : Value} (hb : b < W1.heap.size) (hc : W1.cell? ⟨b, off + i, none⟩ = some v) : wr.cell? ⟨b, off + i, none⟩ = some v :=
  (h.c.cell (p := ⟨b, off + i, none⟩) hb).trans hc

set_option maxHeartbeats 8000000 in
set_option maxRecDepth 100000 in
theorem ranges_any (k0 k1 k2 : Int) (w : World) (hE : Env w) : Calls Tryz.prog 8 #[.int .i64 k0, .int .i64 k1, .int .i64 k2] w fun e w' => e = .returned (.bool true) ∧ Below w.heap.size w w' := by
  obtain ⟨n, hn, hn2⟩ : ∃ n : Nat, modI k0 1200 = n ∧ n < 1200 := ⟨(modI k0 1200).toNat, by have := modI_range k0 1200 (by omega); omega, by have := modI_range k0 1200 (by omega); omega⟩
  obtain ⟨d, hd, hd2⟩ : ∃ n : Nat, modI k1 70 = n ∧ n < 70 := ⟨(modI k1 70).toNat, by have := modI_range k1 70 (by omega); omega, by have := modI_range k1 70 (by omega); omega⟩
  obtain ⟨p, hp, hp2⟩ : ∃ n : Nat, modI k2 5 = n ∧ n < 5 := ⟨(modI k2 5).toNat, by have := modI_range k2 5 (by omega); omega, by have := modI_range k2 5 (by omega); omega⟩
  have m0 := hid (fun w => mod_any k0 1200 (by omega) w)
  have m1 := hid (fun w => mod_any k1 70 (by omega) w)
  have m2 := hid (fun w => mod_any k2 5 (by omega) w)
  rw [hn] at m0
  rw [hd] at m1
  rw [hp] at m2
  clear hn hd hp
  have W1 := fun w => wide_ba n (1 + p) (by omega) (by omega) w
  have W2 := fun w => wide_ba (n + d) (1 + p) (by omega) (by omega) w
  rw [show ((1 + p : Nat) : Int) = 1 + (p : Int) by omega] at W1 W2
  rw [show ((n + d : Nat) : Int) = (n : Int) + (d : Int) by omega] at W2
  obtain ⟨X, hX⟩ : ∃ X, ba (wrS n (1 + p)) = X := ⟨_, rfl⟩
  obtain ⟨Y, hY⟩ : ∃ Y, ba (wrS (n + d) (1 + p)) = Y := ⟨_, rfl⟩
  have hXs : X.size ≤ 16 := by
    have := dec_len n 6 (by omega) (by omega)
    rw [← hX, ba_size, wr_len]; omega
  have hYs : Y.size ≤ 16 := by
    have := dec_len (n + d) 6 (by omega) (by omega)
    rw [← hY, ba_size, wr_len]; omega
  rw [hX] at W1
  rw [hY] at W2
  have HT : Hid (lst (⟨#[80]⟩ ++ X ++ ⟨#[46, 46]⟩ ++ (⟨#[80]⟩ ++ Y)) = pwText n d (1 + p)) := hid (by
    rw [lst_add, lst_add, lst_add, lst_add, ← hX, ← hY]
    show [80] ++ wrS n (1 + p) ++ [46, 46] ++ ([80] ++ wrS (n + d) (1 + p)) = _
    simp [pwText])
  have CW1 := hid W1
  have CW2 := hid W2
  have HE := hid hE
  clear W1 W2 hE hX hY
  go_enter Tryz.func8, Tryz.ntmps8
  go_wp2_with fail
  refine (m0.out _).mono ?_
  rintro e w1 ⟨rfl, rfl⟩
  go_wp2_with fail
  refine (m1.out _).mono ?_
  rintro e w1 ⟨rfl, rfl⟩
  go_wp2_with fail
  refine (m2.out _).mono ?_
  rintro e w1 ⟨rfl, rfl⟩
  go_wp2_with fail
  refine (CW1.out _).mono ?_
  rintro e w1 ⟨rfl, hb1⟩
  have HB1 := hid hb1
  clear hb1
  go_wp2_with fail
  refine (CW2.out _).mono ?_
  rintro e w2 ⟨rfl, hb2⟩
  have HB2 := hid (HB1.out.trans (hb2.mono HB1.out.size))
  clear hb2 HB1 m0 m1 m2 CW1 CW2
  go_wp2_with fail
  have cL := list_any (⟨#[80]⟩ ++ X ++ ⟨#[46, 46]⟩ ++ (⟨#[80]⟩ ++ Y)) (by
    rw [ByteArray.size_append, ByteArray.size_append, ByteArray.size_append, ByteArray.size_append]
    rw [show (⟨#[80]⟩ : ByteArray).size = 1 from rfl, show (⟨#[46, 46]⟩ : ByteArray).size = 2 from rfl]
    omega) w2 (HE.out.below HB2.out)
  rw [HT.out, pw_list n d (1 + p) (by omega) (by omega)] at cL
  by_cases hd64 : 64 ≤ d
  · rw [if_pos hd64] at cL
    refine cL.mono ?_
    rintro e w3 ⟨⟨v, rfl, hrow⟩, hb3⟩
    have HB3 := hid (HB2.out.trans (hb3.mono HB2.out.size))
    have hdz : (64 : Int) ≤ (d : Int) := by omega
    clear hb3 HB2 cL hrow
    go_wp2_with fail
    refine (awake_any _ (HE.out.below HB3.out)).mono ?_
    rintro e w4 ⟨rfl, hb4⟩
    have HB4 := hid (HB3.out.trans (hb4.mono HB3.out.size))
    clear hb4
    go_wp2
    go_ret
    exact ⟨by simp, HB4.out⟩
  · rw [if_neg hd64] at cL
    refine cL.mono ?_
    rintro e w3 ⟨⟨v, rfl, hrow⟩, hb3⟩
    obtain ⟨A, c, rfl, hc1, hc2, hin⟩ := hrow.strsIn
    dsimp only at hc1 hin
    have HB3 := hid (HB2.out.trans (hb3.mono HB2.out.size))
    have hdz : ¬ (64 : Int) ≤ (d : Int) := by omega
    have hlen : ((List.range (d + 1)).map (fun j => (80 : UInt8) :: wrS (n + j) (1 + p))).length = d + 1 := by simp
    rw [hlen] at hc1 ⊢
    rcases hin with h | ⟨b, off, rfl, hP, hc⟩
    · have := congrArg List.length h
      rw [hlen] at this
      simp at this
    have HC : Hid (∀ i, i ≤ d → w3.cell? ⟨b, off + i, none⟩ = some (.string (⟨#[80]⟩ ++ ba (wrS (n + i) (max (1 + p) (ba (wrS n 1)).size))))) := hid (fun i hi => by
      have h1 := hc i (80 :: wrS (n + i) (1 + p)) (by rw [List.getElem?_map, List.getElem?_range (by omega)]; rfl)
      have h2 : (ba (wrS n 1)).size = (decDigits n).length := by
        have := dec_pos n
        rw [ba_size, wr_len]
        omega
      rw [h1, h2, wr_wider n (n + i) (1 + p) (by omega), show (⟨#[80]⟩ : ByteArray) = ba [80] from rfl, ba_add]
      rfl)
    obtain ⟨Q, hQ⟩ : ∃ Q, ba (wrS n 1) = Q := ⟨_, rfl⟩
    have hQs : Q.size ≤ 16 := by
      have := dec_len n 6 (by omega) (by omega)
      rw [← hQ, ba_size, wr_len]
      omega
    rw [hQ] at HC
    have c1 : Hid (∀ wx, RK w w3 wx → Calls Tryz.prog 25 #[.int .i64 (n : Int), .int .i64 1] wx fun e w' => e = .returned (.string Q) ∧ RK w w3 w') := hid (fun wx h => (wide_ba n 1 (by omega) (by omega) wx).mono fun e w' ⟨he, hb⟩ => ⟨by rw [he, hQ], h.step hb⟩)
    clear hc hb3 HB2 cL hrow hlen hQ
    go_wp2_with fail
    go_loopw [14] (fun iv wr => ∃ i : Nat, iv = .int .i64 (i : Int) ∧ i ≤ d + 1 ∧ Hid (RK w w3 wr)) (fun iv _ => d + 1 - (RowKit.intOf iv).toNat)
    case atStart => exact ⟨0, rfl, by omega, hid ⟨HB3.out, Below.refl _ _⟩⟩
    case round =>
      obtain ⟨i, rfl, hi, hK⟩ := hrel
      by_cases hle : i ≤ d
      · have hiz : (i : Int) ≤ (d : Int) := by omega
        have hix : i < d + 1 := by omega
        obtain ⟨R, hR⟩ : ∃ R, ba (wrS (n + i) (max (1 + p) Q.size)) = R := ⟨_, rfl⟩
        have hcell := HC.out i hle
        have c2 : Hid (∀ wx, RK w w3 wx → Calls Tryz.prog 25 #[.int .i64 ((n : Int) + (i : Int)), .int .i64 (max (1 + (p : Int)) (Q.size : Int))] wx fun e w' => e = .returned (.string R) ∧ RK w w3 w') := hid (fun wx h => by
          have := wide_ba (n + i) (max (1 + p) Q.size) (by omega) (by omega) wx
          rw [show ((n + i : Nat) : Int) = (n : Int) + (i : Int) by omega, show ((max (1 + p) Q.size : Nat) : Int) = max (1 + (p : Int)) (Q.size : Int) by omega] at this
          exact this.mono fun e w' ⟨he, hb⟩ => ⟨by rw [he, hR], h.step hb⟩)
        rw [hR] at hcell
        have hRs : R.size ≤ 32 := by
          have := dec_len (n + i) 6 (by omega) (by omega)
          rw [← hR, ba_size, wr_len]
          omega
        have hk := hK.out
        have h0 := hk.at_ hP.2 hcell
        clear hR
        have hwr : IntKind.i64.wrap ((n : Int) + (i : Int)) = (n : Int) + (i : Int) := IntWalk.i64_in _ (by omega)
        clear hK
        go_upto_region 12 with fail
        go_region_with (first
          | (go_at_call 25; with_reducible refine (c1.out _ ?_).mono ?_; (repeat (with_reducible first | assumption | refine RK.drew ?_)); rintro e w' ⟨rfl, hk'⟩; have h1 := hk'.at_ hP.2 hcell)
          | (go_at_call 25; with_reducible refine (c2.out _ ?_).mono ?_; (repeat (with_reducible first | assumption | refine RK.drew ?_)); rintro e w' ⟨rfl, hk'⟩; have h1 := hk'.at_ hP.2 hcell))
        all_goals
          clear hcell h0 hk c1 c2
          go_wp2
          go_roundw
          case rel => exact ⟨i + 1, by go_num, by omega, hid (by (repeat (with_reducible first | assumption | refine RK.drew ?_)))⟩
          case measure => simp [RowKit.intOf]; omega
      · obtain rfl : i = d + 1 := by omega
        have hiz : ¬ ((d : Int) + 1) ≤ (d : Int) := by omega
        go_wp2_with fail
        refine (awake_any _ (HE.out.below hK.out.b)).mono ?_
        rintro e w4 ⟨rfl, hb4⟩
        have HB4 := hid (hK.out.b.trans (hb4.mono hK.out.b.size))
        clear hb4
        go_wp2
        go_ret
        exact ⟨rfl, HB4.out⟩
end Go.Proofs.YtldnbneblpebiaaGreatDoor
