/-
  The usual dialect, as layer 2's statements make it. No conditions.
-/
import Derived.Test.YtcpkefjijinhiaaDoorRefValid
import Derived.Handy
set_option linter.unusedVariables false
namespace Go.Proofs.YtcpkefjijinhiaaDoor
open Go Go.Proofs Go.RowKit Go.Lib

set_option maxHeartbeats 1000000 in
theorem comma_any (w : World) : Calls Tryd.prog 13 #[] w fun e w' => e = .returned (dialV 44 34) ∧ Below w.heap.size w w' := by
  go_enter Tryd.func13, Tryd.ntmps13
  go_wp2
  go_returns
  exact ⟨rfl, ((Below.refl _ w).alloc (Nat.le_refl _) _)⟩
end Go.Proofs.YtcpkefjijinhiaaDoor
