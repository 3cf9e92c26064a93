/-
  isLength, span, Valid: the program's and the specification's. Conditions: span's arguments are from 1 to 21 and from 0 to 20.
-/
import Derived.Test.YtmmphjpakoimcaaDoorSM
import Derived.Laws.BitsAllLaws
import Derived.Laws.BitsLemmas
import Derived.BigQuiet
set_option linter.unusedVariables false
namespace Go.Proofs.YtmmphjpakoimcaaDoor
open Go Go.Proofs Go.RowKit Go.Lib

def lenB (N : Int) : Bool := decide (1 ≤ N ∧ N ≤ 20)
set_option maxHeartbeats 1000000 in
theorem isLength_any (N : Int) (w : World) : Calls Tryd.prog 24 #[.int .i64 N] w fun e w' => e = .returned (.bool (lenB N)) ∧ w = w' := by
  unfold lenB
  by_cases h0 : 1 ≤ N
  · by_cases h1 : N ≤ 20
    · rw [decide_eq_true ⟨h0, h1⟩]
      go_enter Tryd.func24, Tryd.ntmps24
      go_wp2
      go_ret
      exact ⟨rfl, rfl⟩
    · rw [decide_eq_false (fun h => h1 h.2)]
      go_enter Tryd.func24, Tryd.ntmps24
      go_wp2
      go_ret
      exact ⟨rfl, rfl⟩
  · rw [decide_eq_false (fun h => h0 h.1)]
    go_enter Tryd.func24, Tryd.ntmps24
    go_wp2
    go_ret
    exact ⟨rfl, rfl⟩
theorem powI (b : Nat) (h : b ≤ 20) : (1 : Int) ≤ 2 ^ b ∧ (2 : Int) ^ b ≤ 1048576 := by
  have h1 : 2 ^ b ≤ 2 ^ 20 := pow_le h
  have h2 := Nat.two_pow_pos b
  have e : (2 : Int) ^ b = ((2 ^ b : Nat) : Int) := by rw [Int.natCast_pow]; rfl
  omega
theorem spanI (a b : Nat) (h : a ≤ b) : (2 : Int) ^ b - 2 ^ a = ((spanN (a + 1) b : Nat) : Int) := by
  have h1 := pow_le h
  have e : (2 : Int) ^ b = ((2 ^ b : Nat) : Int) := by rw [Int.natCast_pow]; rfl
  have e2 : (2 : Int) ^ a = ((2 ^ a : Nat) : Int) := by rw [Int.natCast_pow]; rfl
  unfold spanN
  rw [Nat.add_sub_cancel]
  omega
theorem ret_int {k : IntKind} {a b : Int} (h : a = b) : Ending.returned (.int k a) = .returned (.int k b) := by rw [h]
set_option maxHeartbeats 1000000 in
theorem span_any (a b : Nat) (hb : b ≤ 20) (hab : a ≤ b) (w : World) : Calls Tryd.prog 35 #[.int .i64 ((a : Int) + 1), .int .i64 (b : Int)] w fun e w' => e = .returned (.int .i64 ((spanN (a + 1) b : Nat) : Int)) ∧ ∃ n, w' = w.drewN n := by
  have hp := powI a (by omega)
  have hq := powI b hb
  have hs := spanI a b hab
  have e1 : IntKind.i64.wrap ((a : Int) + 1 - 1) = (a : Int) := by rw [Int.add_sub_cancel]; exact IntWalk.i64_in _ (by omega)
  have e2 : IntKind.i64.wrap ((2 : Int) ^ b - 2 ^ a) = (2 : Int) ^ b - 2 ^ a := IntWalk.i64_in _ (by omega)
  rw [← hs]
  clear hs
  go_enter Tryd.func35, Tryd.ntmps35
  go_wp2
  go_quiet (fail)
  go_wp2
  go_ret
  exact ⟨rfl, _, rfl⟩
end Go.Proofs.YtmmphjpakoimcaaDoor
