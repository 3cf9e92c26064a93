/-
  The walk of WeeksetHalves. Conditions: the variables hold what their text lays.
-/
import Derived.Test.YtmmphjpakoimcaaDoorReturnsWalk
set_option linter.unusedVariables false
namespace Go.Proofs.YtmmphjpakoimcaaDoor
open Go Go.Proofs Go.RowKit Go.Lib

theorem nm_small (k n : Nat) (h : n ≤ 20) : nmM k n < 1048576 := Nat.lt_of_lt_of_le (nmP_lt k n n) (pow_le h)

set_option maxHeartbeats 8000000 in
set_option maxRecDepth 100000 in
theorem halves_any (N : Int) (w : World) (hE : Env w) : Calls Tryd.prog 6 #[.int .i64 N] w fun e w' => e = .returned (.bool true) ∧ Below w.heap.size w w' := by
  have cM := mod_any N 19 (by omega)
  obtain ⟨m, hm, hm19⟩ : ∃ n : Nat, modI N 19 = (n : Int) ∧ n ≤ 18 := by
    have h := modI_range N 19 (by omega)
    exact ⟨(modI N 19).toNat, by omega, by omega⟩
  rw [hm] at cM
  obtain ⟨n, hn⟩ : ∃ n, m + 2 = n := ⟨_, rfl⟩
  have hn1 : 2 ≤ n := by omega
  have hn2 : n ≤ 20 := by omega
  have hni : 2 + (m : Int) = (n : Int) := by omega
  have hp := powI n hn2
  have epn : (2 : Int) ^ n - 1 = ((2 ^ n - 1 : Nat) : Int) := by
    have e : (2 : Int) ^ n = ((2 ^ n : Nat) : Int) := by rw [Int.natCast_pow]; rfl
    have := Nat.two_pow_pos n
    omega
  obtain ⟨t1, t2, t3, t4, t5, t6, t7, t8, t9⟩ := halves_table ⟨n, by omega⟩ hn1
  dsimp only at t1 t2 t3 t4 t5 t6 t7 t8 t9
  have s1 := nm_small 3 n hn2
  have s2 := nm_small 4 n hn2
  have s3 := nm_small 1 n hn2
  have s4 := nm_small 2 n hn2
  have pA := hid (fun w h => parse_call (parse_word (k := 3) (by omega) (by omega) hn2 t1) (by decide) w h)
  have pB := hid (fun w h => parse_call (parse_word (k := 4) (by omega) (by omega) hn2 t2) (by decide) w h)
  have pC := hid (fun w h => parse_call (parse_word (k := 1) (by omega) (by omega) hn2 t3) (by decide) w h)
  have pD := hid (fun w h => parse_call (parse_word (k := 2) (by omega) (by omega) hn2 t4) (by decide) w h)
  have b5 := bw_and (nmM 3 n) (nmM 4 n) (by omega) (by omega)
  have b6 := bw_or (nmM 3 n) (nmM 4 n) (by omega) (by omega)
  have b7 := bw_and (nmM 1 n) (nmM 2 n) (by omega) (by omega)
  have b8 := bw_or (nmM 1 n) (nmM 2 n) (by omega) (by omega)
  rw [t5] at b5
  rw [t6, ← epn] at b6
  rw [t7] at b7
  rw [t8, ← epn] at b8
  rw [Int.natCast_zero] at b5 b7
  have w3 := weeks_any ((nmM 3 n : Nat) : Int)
  have w4 := weeks_any ((nmM 4 n : Nat) : Int)
  have q3 : nmM 3 n < 2 ^ n := nmP_lt 3 n n
  have q4 : nmM 4 n < 2 ^ n := nmP_lt 4 n n
  rw [weeksM_of (by omega) q3 hn2] at w3
  rw [weeksM_of (by omega) q4 hn2] at w4
  obtain ⟨L3, hL3⟩ : ∃ L, weeksP (nmM 3 n) 20 = L := ⟨_, rfl⟩
  obtain ⟨L4, hL4⟩ : ∃ L, weeksP (nmM 4 n) 20 = L := ⟨_, rfl⟩
  have l4 := weeksP_len (nmM 4 n) 20
  rw [hL3, hL4] at t9
  rw [hL3] at w3
  rw [hL4] at w4 l4
  obtain ⟨a, ha⟩ : ∃ a, nmM 3 n = a := ⟨_, rfl⟩
  obtain ⟨b, hb⟩ : ∃ b, nmM 4 n = b := ⟨_, rfl⟩
  obtain ⟨c, hc⟩ : ∃ c, nmM 1 n = c := ⟨_, rfl⟩
  obtain ⟨d, hd⟩ : ∃ d, nmM 2 n = d := ⟨_, rfl⟩
  rw [ha] at pA b5 b6 w3
  rw [hb] at pB b5 b6 w4
  rw [hc] at pC b7 b8
  rw [hd] at pD b7 b8
  have PA : Hid (∀ w, Env w → Calls Tryd.prog 8 #[.string ⟨#[102, 105, 114, 115, 116]⟩, .int .i64 (n : Int)] w fun e w' => e = .returned (.tuple #[.int .i64 (a : Int), .int .i64 0]) ∧ Below w.heap.size w w') := pA
  have PB : Hid (∀ w, Env w → Calls Tryd.prog 8 #[.string ⟨#[115, 101, 99, 111, 110, 100]⟩, .int .i64 (n : Int)] w fun e w' => e = .returned (.tuple #[.int .i64 (b : Int), .int .i64 0]) ∧ Below w.heap.size w w') := pB
  have PC : Hid (∀ w, Env w → Calls Tryd.prog 8 #[.string ⟨#[111, 100, 100]⟩, .int .i64 (n : Int)] w fun e w' => e = .returned (.tuple #[.int .i64 (c : Int), .int .i64 0]) ∧ Below w.heap.size w w') := pC
  have PD : Hid (∀ w, Env w → Calls Tryd.prog 8 #[.string ⟨#[101, 118, 101, 110]⟩, .int .i64 (n : Int)] w fun e w' => e = .returned (.tuple #[.int .i64 (d : Int), .int .i64 0]) ∧ Below w.heap.size w w') := pD
  have CM := hid cM
  have W3 := hid w3
  have W4 := hid w4
  have HE := hid hE
  have h6 := hE.size
  have hr : (n : Int) % 2 = ((n % 2 : Nat) : Int) := by omega
  have hlen : (L3.length : Int) - (L4.length : Int) = ((n % 2 : Nat) : Int) := by omega
  have hlw : IntKind.i64.wrap ((L3.length : Int) - (L4.length : Int)) = ((n % 2 : Nat) : Int) := by rw [hlen]; exact IntWalk.i64_in _ (by omega)
  obtain ⟨z, hz⟩ : ∃ z, n % 2 = z := ⟨_, rfl⟩
  rw [hz] at hr hlen hlw
  have e5 : ((z : Int) == (z : Int)) = true := by simp
  clear hE cM w3 w4 pA pB pC pD t1 t2 t3 t4 t5 t6 t7 t8 t9 s1 s2 s3 s4 ha hb hc hd hL3 hL4 q3 q4 hm hn epn hz hlen l4
  go_enter Tryd.func6, Tryd.ntmps6
  go_wp2_with fail
  refine (CM.out _).mono ?_
  rintro e w' ⟨rfl, rfl⟩
  go_wp2_with fail
  refine (PA.out _ HE.out).mono ?_
  rintro e w1 ⟨rfl, hb1⟩
  have HB1 := hid hb1
  clear hb1
  go_wp2_with fail
  refine (PB.out _ (HE.out.below HB1.out h6)).mono ?_
  rintro e w2 ⟨rfl, hb2⟩
  have HB2 := hid (HB1.out.trans (hb2.mono HB1.out.size))
  clear hb2
  go_wp2_with fail
  refine (PC.out _ (HE.out.below HB2.out h6)).mono ?_
  rintro e w3 ⟨rfl, hb3⟩
  have HB3 := hid (HB2.out.trans (hb3.mono HB2.out.size))
  clear hb3
  go_wp2_with fail
  refine (PD.out _ (HE.out.below HB3.out h6)).mono ?_
  rintro e w4 ⟨rfl, hb4⟩
  have HB4 := hid (HB3.out.trans (hb4.mono HB3.out.size))
  clear hb4
  go_wp2_with fail
  refine (awake_any _ (HE.out.below HB4.out h6)).mono ?_
  rintro e w5 ⟨rfl, hb5⟩
  have HB5 := hid (HB4.out.trans (hb5.mono HB4.out.size))
  clear hb5
  go_wp2_with fail
  refine (W3.out _).mono ?_
  rintro e w6 ⟨⟨v, rfl, hrow⟩, hb6⟩
  obtain ⟨A, cc, rfl, _, _, _⟩ := hrow.intsIn
  rw [castL_len]
  have HB6 := hid (HB5.out.trans (hb6.mono HB5.out.size))
  clear hb6 hrow
  go_wp2_with fail
  refine (W4.out _).mono ?_
  rintro e w7 ⟨⟨v, rfl, hrow⟩, hb7⟩
  obtain ⟨A', cc', rfl, _, _, _⟩ := hrow.intsIn
  rw [castL_len]
  have HB7 := hid (HB6.out.trans (hb7.mono HB6.out.size))
  clear hb7 hrow
  go_wp2
  go_ret
  exact ⟨rfl, HB7.out⟩
end Go.Proofs.YtmmphjpakoimcaaDoor
