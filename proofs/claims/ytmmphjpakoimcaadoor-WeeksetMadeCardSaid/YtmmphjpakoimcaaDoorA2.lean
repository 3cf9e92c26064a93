/-
  Valid: the program's and the specification's. Conditions: none.
-/
import Derived.Test.YtmmphjpakoimcaaDoorA1
set_option linter.unusedVariables false
namespace Go.Proofs.YtmmphjpakoimcaaDoor
open Go Go.Proofs Go.RowKit Go.Lib

theorem span1_any (n : Nat) (hn : n ≤ 20) (w : World) : Calls Tryd.prog 35 #[.int .i64 1, .int .i64 (n : Int)] w fun e w' => e = .returned (.int .i64 ((2 : Int) ^ n - 1)) ∧ ∃ q, w' = w.drewN q := by
  have h := span_any 0 n hn (Nat.zero_le _) w
  rw [← spanI 0 n (Nat.zero_le _)] at h
  exact h
theorem natN {N : Int} (h : 0 ≤ N) : ∃ n : Nat, N = (n : Int) := Int.eq_ofNat_of_zero_le h
theorem validM_no {S N : Int} (h : ¬ (1 ≤ N ∧ N ≤ 20)) : validM S N = false := decide_eq_false (fun k => h k.1)
theorem validM_low {S N : Int} (h : S < 1) : validM S N = false := decide_eq_false (fun k => by omega)
theorem validM_high {S : Int} {n : Nat} (h : 2 ^ n ≤ S) : validM S n = false := decide_eq_false (fun k => by
  have : (n : Int).toNat = n := Int.toNat_natCast n
  rw [this] at k
  omega)
theorem validM_yes {S : Int} {n : Nat} (h1 : 1 ≤ n) (h2 : n ≤ 20) (hs : 1 ≤ S) (h : S < 2 ^ n) : validM S n = true := decide_eq_true ⟨⟨by omega, by omega⟩, hs, by rw [Int.toNat_natCast]; exact h⟩

set_option maxHeartbeats 2000000 in
theorem valid_any (S N : Int) (w : World) : Calls Tryd.prog 13 #[.int .i64 S, .int .i64 N] w fun e w' => e = .returned (.bool (validM S N)) ∧ ∃ q, w' = w.drewN q := by
  have cL := isLength_any N
  by_cases hN : 1 ≤ N ∧ N ≤ 20
  · obtain ⟨n, rfl⟩ := natN (show 0 ≤ N by omega)
    rw [show lenB (n : Int) = true from decide_eq_true hN] at cL
    have cS := span1_any n (by omega)
    have hp := powI n (by omega)
    by_cases h1 : 1 ≤ S
    · by_cases h2 : S < 2 ^ n
      · rw [validM_yes (by omega) (by omega) h1 h2]
        have h3 : S ≤ 2 ^ n - 1 := by omega
        clear hN
        go_enter Tryd.func13, Tryd.ntmps13
        go_wp2_with (fail)
        first
          | (refine (cL _).mono ?_; rintro e w' ⟨rfl, rfl⟩)
          | skip
        go_wp2_with (fail)
        refine (cS _).mono ?_
        rintro e w' ⟨rfl, q, rfl⟩
        go_wp2
        go_ret
        exact ⟨rfl, q, rfl⟩
      · rw [validM_high (by omega)]
        have h3 : ¬ S ≤ 2 ^ n - 1 := by omega
        clear hN
        go_enter Tryd.func13, Tryd.ntmps13
        go_wp2_with (fail)
        refine (cL _).mono ?_
        rintro e w' ⟨rfl, rfl⟩
        go_wp2_with (fail)
        refine (cS _).mono ?_
        rintro e w' ⟨rfl, q, rfl⟩
        go_wp2
        go_ret
        exact ⟨by simp [h3], q, rfl⟩
    · rw [validM_low (by omega)]
      clear hN
      go_enter Tryd.func13, Tryd.ntmps13
      go_wp2_with (fail)
      refine (cL _).mono ?_
      rintro e w' ⟨rfl, rfl⟩
      go_wp2
      go_ret
      exact ⟨rfl, 0, rfl⟩
  · rw [show lenB N = false from decide_eq_false hN] at cL
    rw [validM_no hN]
    clear hN
    go_enter Tryd.func13, Tryd.ntmps13
    go_wp2_with (fail)
    refine (cL _).mono ?_
    rintro e w' ⟨rfl, rfl⟩
    go_wp2
    go_ret
    exact ⟨rfl, 0, rfl⟩
set_option maxHeartbeats 2000000 in
theorem rvalid_any (S N : Int) (w : World) : Calls Tryd.prog 14 #[.int .i64 S, .int .i64 N] w fun e w' => e = .returned (.bool (validM S N)) ∧ ∃ q, w' = w.drewN q := by
  by_cases h0 : 1 ≤ N
  · by_cases h20 : N ≤ 20
    · obtain ⟨n, rfl⟩ := natN (show 0 ≤ N by omega)
      have hp := powI n (by omega)
      by_cases h1 : 1 ≤ S
      · by_cases h2 : S < 2 ^ n
        · rw [validM_yes (by omega) (by omega) h1 h2]
          go_enter Tryd.func14, Tryd.ntmps14
          go_wp2
          go_ret
          exact ⟨rfl, 0, rfl⟩
        · rw [validM_high (by omega)]
          go_enter Tryd.func14, Tryd.ntmps14
          go_wp2
          go_ret
          exact ⟨by simp, 0, rfl⟩
      · rw [validM_low (by omega)]
        go_enter Tryd.func14, Tryd.ntmps14
        go_wp2
        go_ret
        exact ⟨rfl, 0, rfl⟩
    · rw [validM_no (by omega)]
      go_enter Tryd.func14, Tryd.ntmps14
      go_wp2
      go_ret
      exact ⟨rfl, 0, rfl⟩
  · rw [validM_no (by omega)]
    go_enter Tryd.func14, Tryd.ntmps14
    go_wp2
    go_ret
    exact ⟨rfl, 0, rfl⟩
end Go.Proofs.YtmmphjpakoimcaaDoor
