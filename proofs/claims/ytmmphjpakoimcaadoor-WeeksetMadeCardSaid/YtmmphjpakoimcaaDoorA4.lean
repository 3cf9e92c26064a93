/-
  The set of a name: the program's (named).in and the specification's named. Conditions: the number of weeks is from 1 to 20; the name is one of the five.
-/
import Derived.Test.YtmmphjpakoimcaaDoorA3
set_option linter.unusedVariables false
namespace Go.Proofs.YtmmphjpakoimcaaDoor
open Go Go.Proofs Go.RowKit Go.Lib

/-- The entries of the table of names. -/
def nv : Nat → Array Value
  | 0 => #[.string ⟨#[97, 108, 108]⟩, .int .i64 1048575, .bool true, .bool true]
  | 1 => #[.string ⟨#[111, 100, 100]⟩, .int .i64 349525, .bool true, .bool true]
  | 2 => #[.string ⟨#[101, 118, 101, 110]⟩, .int .i64 699050, .bool true, .bool true]
  | 3 => #[.string ⟨#[102, 105, 114, 115, 116]⟩, .int .i64 1048575, .bool true, .bool false]
  | _ => #[.string ⟨#[115, 101, 99, 111, 110, 100]⟩, .int .i64 1048575, .bool false, .bool true]
theorem in_table : ∀ n : Fin 21, 1 ≤ n.val → (spanN 1 n.val &&& 1048575 = nmM 0 n.val) ∧ (spanN 1 n.val &&& 349525 = nmM 1 n.val) ∧ (spanN 1 n.val &&& 699050 = nmM 2 n.val) ∧ (spanN 1 ((n.val + 1) / 2) &&& 1048575 = nmM 3 n.val) ∧ (spanN ((n.val + 1) / 2 + 1) n.val &&& 1048575 = nmM 4 n.val) := by decide +kernel
theorem in_and (x m v : Nat) (hx : x < 1048576) (hm : m < 1048576) (h : x &&& m = v) : bits .and .i64 (x : Int) (m : Int) = (v : Int) := by rw [bw_and x m (by omega) (by omega), h]
theorem spanN_small (a b : Nat) (h : b ≤ 20) : spanN a b < 1048576 := Nat.lt_of_lt_of_le (spanN_lt a b) (pow_le h)

set_option maxHeartbeats 4000000 in
set_option maxRecDepth 100000 in
theorem in_any (k n : Nat) (hk : k < 5) (h1 : 1 ≤ n) (h2 : n ≤ 20) (w : World) : Calls Tryd.prog 40 #[.agg (nv k), .int .i64 (n : Int)] w fun e w' => e = .returned (.int .i64 (nmM k n : Nat)) ∧ Below w.heap.size w w' := by
  obtain ⟨t0, t1, t2, t3, t4⟩ := in_table ⟨n, by omega⟩ h1
  simp only at t0 t1 t2 t3 t4
  obtain ⟨h, hh⟩ : ∃ h, (n + 1) / 2 = h := ⟨_, rfl⟩
  rw [hh] at t3 t4
  have hI : ((n : Int) + 1) / 2 = (h : Int) := by omega
  have hT : Int.tdiv ((n : Int) + 1) 2 = (h : Int) := by rw [Int.tdiv_eq_ediv_of_nonneg (by omega)]; exact hI
  have hle : h ≤ n := by omega
  have q0 := in_and _ 1048575 _ (spanN_small 1 n h2) (by omega) t0
  have q1 := in_and _ 349525 _ (spanN_small 1 n h2) (by omega) t1
  have q2 := in_and _ 699050 _ (spanN_small 1 n h2) (by omega) t2
  have q3 := in_and _ 1048575 _ (spanN_small 1 h (by omega)) (by omega) t3
  have q4 := in_and _ 1048575 _ (spanN_small (h + 1) n h2) (by omega) t4
  have cA := fun w => span_any 0 n h2 (Nat.zero_le _) w
  have cB := fun w => span_any 0 h (by omega) (Nat.zero_le _) w
  have cC := fun w => span_any h n h2 hle w
  simp only [Nat.zero_add, Int.natCast_zero, Int.zero_add] at cA cB
  obtain ⟨A, hA⟩ : ∃ A, spanN 1 n = A := ⟨_, rfl⟩
  obtain ⟨B, hB⟩ : ∃ B, spanN 1 h = B := ⟨_, rfl⟩
  obtain ⟨C, hC⟩ : ∃ C, spanN (h + 1) n = C := ⟨_, rfl⟩
  rw [hA] at cA q0 q1 q2
  rw [hB] at cB q3
  rw [hC] at cC q4
  clear hA hB hC t0 t1 t2 t3 t4 hh
  have hb : ∀ (o : Obj) (q : Nat), Below w.heap.size w ((w.alloc o).drewN q) := fun o q => below_drewN ((Below.refl _ w).alloc (Nat.le_refl _) o) q
  have HB := hid hb
  clear hb
  rcases (show k = 0 ∨ k = 1 ∨ k = 2 ∨ k = 3 ∨ k = 4 by omega) with rfl | rfl | rfl | rfl | rfl
  all_goals
    unfold nv
    go_enter Tryd.func40, Tryd.ntmps40
    go_wp2
    go_quiet ((go_at_call 35; first | with_reducible refine Calls.quiet_of (cA _) | with_reducible refine Calls.quiet_of (cB _) | with_reducible refine Calls.quiet_of (cC _)))
    go_wp2
    go_ret
    first | exact ⟨ret_int q0, HB.out _ _⟩ | exact ⟨ret_int q1, HB.out _ _⟩ | exact ⟨ret_int q2, HB.out _ _⟩ | exact ⟨ret_int q3, HB.out _ _⟩ | exact ⟨ret_int q4, HB.out _ _⟩

theorem or_pow (s k : Nat) (hs : s < 2 ^ k) (hk : k ≤ 20) : bits .or .i64 (s : Int) (2 ^ k) = ((s + 2 ^ k : Nat) : Int) := by
  have := pow_le hk
  have e : (2 : Int) ^ k = ((2 ^ k : Nat) : Int) := by rw [Int.natCast_pow]; rfl
  rw [e, bw_or s (2 ^ k) (by omega) (by omega), or_top hs]

set_option maxHeartbeats 4000000 in
set_option maxRecDepth 100000 in
theorem rnamed_any (k n : Nat) (hk : k < 5) (h1 : 1 ≤ n) (h2 : n ≤ 20) (w : World) : Calls Tryd.prog 33 #[.int .i64 (k : Int), .int .i64 (n : Int)] w fun e w' => e = .returned (.int .i64 (nmM k n : Nat)) ∧ w' = w := by
  obtain ⟨h, hh⟩ : ∃ h, (n + 1) / 2 = h := ⟨_, rfl⟩
  have hI : ((n : Int) + 1) / 2 = (h : Int) := by omega
  have HH := hid hh
  clear hh
  go_enter Tryd.func33, Tryd.ntmps33
  go_wp2
  go_loopw [5, 6] (fun sv iv wr => ∃ j : Nat, iv = .int .i64 ((j : Int) + 1) ∧ j ≤ n ∧ sv = .int .i64 ((nmP k n j : Nat) : Int) ∧ Hid (wr = w)) (fun _ iv _ => n + 1 - (RowKit.intOf iv).toNat)
  case atStart => exact ⟨0, rfl, by omega, rfl, by trivial⟩
  case round =>
    obtain ⟨j, rfl, hj, rfl, hw⟩ := hrel
    obtain rfl : w = wr := hw.out.symm
    by_cases hlt : j < n
    · have hltz : (j : Int) + 1 ≤ (n : Int) := by omega
      have hsm := nmP_lt k n j
      have hor := or_pow (nmP k n j) j hsm (by omega)
      have hpj := powI j (by omega)
      have e1 : IntKind.i64.wrap ((j : Int) + 1 - 1) = (j : Int) := by rw [Int.add_sub_cancel]; exact IntWalk.i64_in _ (by omega)
      cases hin : inB k n (j + 1) with
      | true =>
        have hnx := nmP_yes hin
        rw [← hnx] at hor
        have HN := hid hin
        clear hin hnx
        rcases (show k = 0 ∨ k = 1 ∨ k = 2 ∨ k = 3 ∨ k = 4 by omega) with rfl | rfl | rfl | rfl | rfl
        · go_wp2
          go_roundw
          case rel => exact ⟨j + 1, by simp, by omega, rfl, by trivial⟩
          case measure => simp [RowKit.intOf]; omega
        · have hm : ((j : Int) + 1) % 2 = 1 := by have := of_decide_eq_true HN.out; omega
          go_wp2
          go_roundw
          case rel => exact ⟨j + 1, by simp, by omega, rfl, by trivial⟩
          case measure => simp [RowKit.intOf]; omega
        · have hm : ((j : Int) + 1) % 2 = 0 := by have := of_decide_eq_true HN.out; omega
          go_wp2
          go_roundw
          case rel => exact ⟨j + 1, by simp, by omega, rfl, by trivial⟩
          case measure => simp [RowKit.intOf]; omega
        · have hm : (j : Int) + 1 ≤ (h : Int) := by have := of_decide_eq_true HN.out; have := HH.out; omega
          go_wp2
          go_roundw
          case rel => exact ⟨j + 1, by simp, by omega, rfl, by trivial⟩
          case measure => simp [RowKit.intOf]; omega
        · have hm : (h : Int) < (j : Int) + 1 := by have := of_decide_eq_true HN.out; have := HH.out; omega
          go_wp2
          go_roundw
          case rel => exact ⟨j + 1, by simp, by omega, rfl, by trivial⟩
          case measure => simp [RowKit.intOf]; omega
      | false =>
        have hnx := nmP_no hin
        have HX := hid hnx
        have HN := hid hin
        clear hin hnx hor
        rcases (show k = 0 ∨ k = 1 ∨ k = 2 ∨ k = 3 ∨ k = 4 by omega) with rfl | rfl | rfl | rfl | rfl
        · exact absurd HN.out (by simp [inB])
        · have hm : ((j : Int) + 1) % 2 = 0 := by have := of_decide_eq_false HN.out; omega
          go_wp2
          go_roundw
          case rel => exact ⟨j + 1, by simp, by omega, by rw [HX.out], by trivial⟩
          case measure => simp [RowKit.intOf]; omega
        · have hm : ((j : Int) + 1) % 2 = 1 := by have := of_decide_eq_false HN.out; omega
          go_wp2
          go_roundw
          case rel => exact ⟨j + 1, by simp, by omega, by rw [HX.out], by trivial⟩
          case measure => simp [RowKit.intOf]; omega
        · have hm : ¬ (j : Int) + 1 ≤ (h : Int) := by have := of_decide_eq_false HN.out; have := HH.out; omega
          go_wp2
          go_roundw
          case rel => exact ⟨j + 1, by simp, by omega, by rw [HX.out], by trivial⟩
          case measure => simp [RowKit.intOf]; omega
        · have hm : ¬ (h : Int) < (j : Int) + 1 := by have := of_decide_eq_false HN.out; have := HH.out; omega
          go_wp2
          go_roundw
          case rel => exact ⟨j + 1, by simp, by omega, by rw [HX.out], by trivial⟩
          case measure => simp [RowKit.intOf]; omega
    · have hltz : ¬ (j : Int) + 1 ≤ (n : Int) := by omega
      obtain rfl : j = n := by omega
      go_wp2
      go_ret
      exact ⟨rfl, rfl⟩
end Go.Proofs.YtmmphjpakoimcaaDoor
