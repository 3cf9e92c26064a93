/-
  The program and the specification agree on all functions at the greatest number of students: the statement RequestsLimits, for every integer. Conditions: those of the row.
-/
import Derived.Test.YtdpfpkhbcdefmaaGreatDoorQN01
import Derived.Test.YtdpfpkhbcdefmaaGreatDoorQN02
import Derived.Test.YtdpfpkhbcdefmaaGreatDoorQN03
import Derived.Test.YtdpfpkhbcdefmaaGreatDoorQN04
import Derived.Test.YtdpfpkhbcdefmaaGreatDoorQN05
import Derived.Test.YtdpfpkhbcdefmaaGreatDoorQN06
import Derived.Test.YtdpfpkhbcdefmaaGreatDoorQN07
import Derived.Test.YtdpfpkhbcdefmaaGreatDoorQN08
import Derived.Test.YtdpfpkhbcdefmaaGreatDoorQN09
import Derived.Test.YtdpfpkhbcdefmaaGreatDoorQN10
import Derived.Test.YtdpfpkhbcdefmaaGreatDoorQN11
import Derived.Test.YtdpfpkhbcdefmaaGreatDoorQN12
import Derived.Test.YtdpfpkhbcdefmaaGreatDoorQN13
import Derived.Test.YtdpfpkhbcdefmaaGreatDoorQN14
import Derived.Test.YtdpfpkhbcdefmaaGreatDoorQN15
import Derived.Test.YtdpfpkhbcdefmaaGreatDoorQN16
import Derived.Test.YtdpfpkhbcdefmaaGreatDoorQN17
import Derived.Test.YtdpfpkhbcdefmaaGreatDoorQN18
import Derived.Test.YtdpfpkhbcdefmaaGreatDoorQN19
import Derived.Test.YtdpfpkhbcdefmaaGreatDoorQN20
import Derived.Test.YtdpfpkhbcdefmaaGreatDoorQN21
import Derived.Test.YtdpfpkhbcdefmaaGreatDoorQN22
import Derived.Test.YtdpfpkhbcdefmaaGreatDoorQN24
import Derived.Test.YtdpfpkhbcdefmaaGreatDoorLN01
import Derived.Test.YtdpfpkhbcdefmaaGreatDoorLN02
import Derived.Test.YtdpfpkhbcdefmaaGreatDoorLN03
import Derived.Test.YtdpfpkhbcdefmaaGreatDoorLN04
import Derived.Test.YtdpfpkhbcdefmaaGreatDoorLN05
import Derived.Test.YtdpfpkhbcdefmaaGreatDoorLN06
import Derived.Test.YtdpfpkhbcdefmaaGreatDoorLN07
import Derived.Test.YtdpfpkhbcdefmaaGreatDoorLN08
import Derived.Test.YtdpfpkhbcdefmaaGreatDoorLN09
import Derived.Test.YtdpfpkhbcdefmaaGreatDoorLN10
import Derived.Test.YtdpfpkhbcdefmaaGreatDoorLN11
import Derived.Test.YtdpfpkhbcdefmaaGreatDoorLN12
import Derived.Test.YtdpfpkhbcdefmaaGreatDoorLN13
import Derived.Test.YtdpfpkhbcdefmaaGreatDoorLN14
set_option linter.unusedVariables false
set_option maxRecDepth 100000
namespace Go.Proofs.YtdpfpkhbcdefmaaGreatDoor
open Go Go.Proofs Go.Proofs.YtdpfpkhbcdefmaaGreatDoor.S12 Go.ChangeShapes Go.WideShapes Go.ChangeAt Go.RowKit
open Go.ChangeMaps (open_string)

theorem qlimits_said : Rows.RequestsLimitsSaid :=
  OpenClaim.holds_of_cond 6 Tryz.f6 rfl rfl rfl rfl rfl rfl rfl ⟨rfl, rfl, rfl, rfl, rfl⟩ rfl rfl rfl rfl rfl (by kernel_rfl) Tryz.func6 qlimits_closed
    (of_decide_eq_true (by kernel_rfl)) (by unfold Func.isWrapper; first | (rw [if_pos (by decide +kernel)]; kernel_rfl) | (rw [if_neg (by decide +kernel)]; exact ⟨rfl, rfl⟩))
    (fun os started H enc _ F => by rw [OpenClaim.pre_eq_preRow]; exact qlimits_lifted os started H enc F)

theorem qlimits_plain (f : FuncId) (fn : Func) (hf : Tryz.pinned.checked.prog.funcNamed "timetable/timetablelaw12.RequestsLimits" = some f) (hfn : Tryz.pinned.checked.prog.funcs[f]? = some fn) :
    true = Tryz.pinned.checked.prog.looks [] ∧ ∀ (j : Nat) t, fn.params[j]? = some t → Tryz.pinned.checked.prog.wantsStandIn t = false := by
  obtain rfl : f = 6 := Option.some.inj ((show Tryz.prog.funcNamed "timetable/timetablelaw12.RequestsLimits" = some 6 by kernel_rfl).symm.trans hf) |>.symm
  obtain rfl : fn = Tryz.f6 := (Option.some.inj (Tryz.func6.symm.trans hfn)).symm
  refine ⟨by kernel_rfl, fun j t ht => ?_⟩
  rw [Tryz.params6] at ht
  have hm := Array.mem_of_getElem? ht
  obtain rfl : t = 3 := by simpa using hm
  exact (show Tryz.prog.wantsStandIn 3 = false by kernel_rfl)

/-- The card. -/
theorem qlimits_card : Rows.RequestsLimitsCardSaid :=
  Claim7.holds_tied_plain_at .later [] _ _ _ _ qlimits_said (fun _ h => by cases h) (by kernel_rfl) (fun _ h => by cases h) requestsLimits_row_tie rfl ⟨rfl, rfl⟩ (by kernel_rfl) rfl qlimits_plain (by kernel_rfl)
end Go.Proofs.YtdpfpkhbcdefmaaGreatDoor
