/-
  Curricula are read as they were written: the statement CurriculumReturns, for every list of numbers. Conditions: those of the row.
-/
import Derived.Test.YtpaejkhaiifgdaaGreatDoorGN01
import Derived.Test.YtpaejkhaiifgdaaGreatDoorGN02
import Derived.Test.YtpaejkhaiifgdaaGreatDoorGN03
import Derived.Test.YtpaejkhaiifgdaaGreatDoorGN04
import Derived.Test.YtpaejkhaiifgdaaGreatDoorGN05
import Derived.Test.YtpaejkhaiifgdaaGreatDoorGN06
import Derived.Test.YtpaejkhaiifgdaaGreatDoorGN07
import Derived.Test.YtpaejkhaiifgdaaGreatDoorGN08
import Derived.Test.YtpaejkhaiifgdaaGreatDoorGN09
import Derived.Test.YtpaejkhaiifgdaaGreatDoorGN10
import Derived.Test.YtpaejkhaiifgdaaGreatDoorGN11
import Derived.Test.YtpaejkhaiifgdaaGreatDoorGN12
import Derived.Test.YtpaejkhaiifgdaaGreatDoorGN13
import Derived.Test.YtpaejkhaiifgdaaGreatDoorGN14
import Derived.Test.YtpaejkhaiifgdaaGreatDoorGN15
import Derived.Test.YtpaejkhaiifgdaaGreatDoorGN16
import Derived.Test.YtpaejkhaiifgdaaGreatDoorGN17
import Derived.Test.YtpaejkhaiifgdaaGreatDoorGN18
import Derived.Test.YtpaejkhaiifgdaaGreatDoorRN01
import Derived.Test.YtpaejkhaiifgdaaGreatDoorRN02
import Derived.Test.YtpaejkhaiifgdaaGreatDoorRN03
import Derived.Test.YtpaejkhaiifgdaaGreatDoorRN04
set_option linter.unusedVariables false
set_option maxRecDepth 100000
namespace Go.Proofs.YtpaejkhaiifgdaaGreatDoor
open Go Go.Proofs Go.Proofs.YtpaejkhaiifgdaaGreatDoor.S11 Go.ChangeShapes Go.WideShapes Go.ChangeAt Go.RowKit
open Go.ChangeMaps (open_string)

theorem ureturns_said : Rows.CurriculumReturnsSaid :=
  OpenClaim.holds_of_cond 5 Tryz.f5 rfl rfl rfl rfl rfl rfl rfl ⟨rfl, rfl, rfl, rfl, rfl⟩ rfl rfl rfl rfl rfl (by kernel_rfl) Tryz.func5 ureturns_closed
    (of_decide_eq_true (by kernel_rfl)) (by unfold Func.isWrapper; first | (rw [if_pos (by decide +kernel)]; kernel_rfl) | (rw [if_neg (by decide +kernel)]; exact ⟨rfl, rfl⟩))
    (fun os started H enc _ F => by rw [OpenClaim.pre_eq_preRow]; exact ureturns_lifted os started H enc F)

theorem ureturns_plain (f : FuncId) (fn : Func) (hf : Tryz.pinned.checked.prog.funcNamed "timetable/timetablelaw11.CurriculumReturns" = some f) (hfn : Tryz.pinned.checked.prog.funcs[f]? = some fn) :
    true = Tryz.pinned.checked.prog.looks [] ∧ ∀ (j : Nat) t, fn.params[j]? = some t → Tryz.pinned.checked.prog.wantsStandIn t = false := by
  obtain rfl : f = 5 := Option.some.inj ((show Tryz.prog.funcNamed "timetable/timetablelaw11.CurriculumReturns" = some 5 by kernel_rfl).symm.trans hf) |>.symm
  obtain rfl : fn = Tryz.f5 := (Option.some.inj (Tryz.func5.symm.trans hfn)).symm
  refine ⟨by kernel_rfl, fun j t ht => ?_⟩
  rw [Tryz.params5] at ht
  have hm := Array.mem_of_getElem? ht
  obtain rfl : t = 47 := by simpa using hm
  exact (show Tryz.prog.wantsStandIn 47 = false by kernel_rfl)

/-- The card. -/
theorem ureturns_card : Rows.CurriculumReturnsCardSaid :=
  Claim7.holds_tied_plain_at .later [] _ _ _ _ ureturns_said (fun _ h => by cases h) (by kernel_rfl) (fun _ h => by cases h) curriculumReturns_row_tie rfl ⟨rfl, rfl⟩ (by kernel_rfl) rfl ureturns_plain (by kernel_rfl)
end Go.Proofs.YtpaejkhaiifgdaaGreatDoor
