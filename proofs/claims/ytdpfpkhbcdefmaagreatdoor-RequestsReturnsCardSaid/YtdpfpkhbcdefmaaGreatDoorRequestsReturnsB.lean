/-
  Requests are read as they were written, and the students want all of them: the statement RequestsReturns, for every list of numbers. Conditions: those of the row.
-/
import Derived.Test.YtdpfpkhbcdefmaaGreatDoorQN01
import Derived.Test.YtdpfpkhbcdefmaaGreatDoorQN02
import Derived.Test.YtdpfpkhbcdefmaaGreatDoorQN03
import Derived.Test.YtdpfpkhbcdefmaaGreatDoorQN04
import Derived.Test.YtdpfpkhbcdefmaaGreatDoorQN05
import Derived.Test.YtdpfpkhbcdefmaaGreatDoorQN06
import Derived.Test.YtdpfpkhbcdefmaaGreatDoorQN07
import Derived.Test.YtdpfpkhbcdefmaaGreatDoorQN08
import Derived.Test.YtdpfpkhbcdefmaaGreatDoorQN09
import Derived.Test.YtdpfpkhbcdefmaaGreatDoorQN10
import Derived.Test.YtdpfpkhbcdefmaaGreatDoorQN11
import Derived.Test.YtdpfpkhbcdefmaaGreatDoorQN12
import Derived.Test.YtdpfpkhbcdefmaaGreatDoorQN13
import Derived.Test.YtdpfpkhbcdefmaaGreatDoorQN14
import Derived.Test.YtdpfpkhbcdefmaaGreatDoorQN15
import Derived.Test.YtdpfpkhbcdefmaaGreatDoorQN16
import Derived.Test.YtdpfpkhbcdefmaaGreatDoorQN17
import Derived.Test.YtdpfpkhbcdefmaaGreatDoorQN18
import Derived.Test.YtdpfpkhbcdefmaaGreatDoorQN19
import Derived.Test.YtdpfpkhbcdefmaaGreatDoorQN20
import Derived.Test.YtdpfpkhbcdefmaaGreatDoorQN21
import Derived.Test.YtdpfpkhbcdefmaaGreatDoorQN22
import Derived.Test.YtdpfpkhbcdefmaaGreatDoorQN23
import Derived.Test.YtdpfpkhbcdefmaaGreatDoorQN24
import Derived.Test.YtdpfpkhbcdefmaaGreatDoorQN25
import Derived.Test.YtdpfpkhbcdefmaaGreatDoorQN26
import Derived.Test.YtdpfpkhbcdefmaaGreatDoorQN27
import Derived.Test.YtdpfpkhbcdefmaaGreatDoorQN28
import Derived.Test.YtdpfpkhbcdefmaaGreatDoorQN29
set_option linter.unusedVariables false
set_option maxRecDepth 100000
namespace Go.Proofs.YtdpfpkhbcdefmaaGreatDoor
open Go Go.Proofs Go.Proofs.YtdpfpkhbcdefmaaGreatDoor.S12 Go.ChangeShapes Go.WideShapes Go.ChangeAt Go.RowKit
open Go.ChangeMaps (open_string)

theorem qreturns_said : Rows.RequestsReturnsSaid :=
  OpenClaim.holds_of_cond 5 Tryz.f5 rfl rfl rfl rfl rfl rfl rfl ⟨rfl, rfl, rfl, rfl, rfl⟩ rfl rfl rfl rfl rfl (by kernel_rfl) Tryz.func5 qreturns_closed
    (of_decide_eq_true (by kernel_rfl)) (by unfold Func.isWrapper; first | (rw [if_pos (by decide +kernel)]; kernel_rfl) | (rw [if_neg (by decide +kernel)]; exact ⟨rfl, rfl⟩))
    (fun os started H enc _ F => by rw [OpenClaim.pre_eq_preRow]; exact qreturns_lifted os started H enc F)

theorem qreturns_plain (f : FuncId) (fn : Func) (hf : Tryz.pinned.checked.prog.funcNamed "timetable/timetablelaw12.RequestsReturns" = some f) (hfn : Tryz.pinned.checked.prog.funcs[f]? = some fn) :
    true = Tryz.pinned.checked.prog.looks [] ∧ ∀ (j : Nat) t, fn.params[j]? = some t → Tryz.pinned.checked.prog.wantsStandIn t = false := by
  obtain rfl : f = 5 := Option.some.inj ((show Tryz.prog.funcNamed "timetable/timetablelaw12.RequestsReturns" = some 5 by kernel_rfl).symm.trans hf) |>.symm
  obtain rfl : fn = Tryz.f5 := (Option.some.inj (Tryz.func5.symm.trans hfn)).symm
  refine ⟨by kernel_rfl, fun j t ht => ?_⟩
  rw [Tryz.params5] at ht
  have hm := Array.mem_of_getElem? ht
  obtain rfl : t = 44 := by simpa using hm
  exact (show Tryz.prog.wantsStandIn 44 = false by kernel_rfl)

/-- The card. -/
theorem qreturns_card : Rows.RequestsReturnsCardSaid :=
  Claim7.holds_tied_plain_at .later [] _ _ _ _ qreturns_said (fun _ h => by cases h) (by kernel_rfl) (fun _ h => by cases h) requestsReturns_row_tie rfl ⟨rfl, rfl⟩ (by kernel_rfl) rfl qreturns_plain (by kernel_rfl)
end Go.Proofs.YtdpfpkhbcdefmaaGreatDoor
