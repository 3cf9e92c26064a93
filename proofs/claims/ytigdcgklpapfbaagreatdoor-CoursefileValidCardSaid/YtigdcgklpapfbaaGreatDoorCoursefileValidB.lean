/-
  What Valid, Write, Times and Parallel return for any classes, grid and number of weeks: the statement CoursefileValid. Conditions: those of the row.
-/
import Derived.Test.YtigdcgklpapfbaaGreatDoorVN01
import Derived.Test.YtigdcgklpapfbaaGreatDoorVN02
import Derived.Test.YtigdcgklpapfbaaGreatDoorVN03
import Derived.Test.YtigdcgklpapfbaaGreatDoorVN04
import Derived.Test.YtigdcgklpapfbaaGreatDoorVN05
import Derived.Test.YtigdcgklpapfbaaGreatDoorVN06
import Derived.Test.YtigdcgklpapfbaaGreatDoorVN07
import Derived.Test.YtigdcgklpapfbaaGreatDoorVN08
import Derived.Test.YtigdcgklpapfbaaGreatDoorVN09
import Derived.Test.YtigdcgklpapfbaaGreatDoorVN10
import Derived.Test.YtigdcgklpapfbaaGreatDoorVN11
import Derived.Test.YtigdcgklpapfbaaGreatDoorVN12
import Derived.Test.YtigdcgklpapfbaaGreatDoorVN13
import Derived.Test.YtigdcgklpapfbaaGreatDoorVN14
import Derived.Test.YtigdcgklpapfbaaGreatDoorVN15
import Derived.Test.YtigdcgklpapfbaaGreatDoorVN16
import Derived.Test.YtigdcgklpapfbaaGreatDoorVN17
import Derived.Test.YtigdcgklpapfbaaGreatDoorVN18
import Derived.Test.YtigdcgklpapfbaaGreatDoorVN19
import Derived.Test.YtigdcgklpapfbaaGreatDoorVN20
import Derived.Test.YtigdcgklpapfbaaGreatDoorVN21
import Derived.Test.YtigdcgklpapfbaaGreatDoorVN22
import Derived.Test.YtigdcgklpapfbaaGreatDoorVN23
import Derived.Test.YtigdcgklpapfbaaGreatDoorVN24
import Derived.Test.YtigdcgklpapfbaaGreatDoorVN25
import Derived.Test.YtigdcgklpapfbaaGreatDoorVN26
import Derived.Test.YtigdcgklpapfbaaGreatDoorVN27
import Derived.Test.YtigdcgklpapfbaaGreatDoorVN28
import Derived.Test.YtigdcgklpapfbaaGreatDoorVN29
import Derived.Test.YtigdcgklpapfbaaGreatDoorVN30
import Derived.Test.YtigdcgklpapfbaaGreatDoorVN31
import Derived.Test.YtigdcgklpapfbaaGreatDoorVN32
import Derived.Test.YtigdcgklpapfbaaGreatDoorVN33
import Derived.Test.YtigdcgklpapfbaaGreatDoorVN34
import Derived.Test.YtigdcgklpapfbaaGreatDoorVN35
import Derived.Test.YtigdcgklpapfbaaGreatDoorVN36
import Derived.Test.YtigdcgklpapfbaaGreatDoorVN37
import Derived.Test.YtigdcgklpapfbaaGreatDoorVN38
import Derived.Test.YtigdcgklpapfbaaGreatDoorVN39
import Derived.Test.YtigdcgklpapfbaaGreatDoorVN40
import Derived.Test.YtigdcgklpapfbaaGreatDoorVN41
import Derived.Test.YtigdcgklpapfbaaGreatDoorVN42
import Derived.Test.YtigdcgklpapfbaaGreatDoorVN43
import Derived.Test.YtigdcgklpapfbaaGreatDoorVN44
set_option linter.unusedVariables false
set_option maxRecDepth 100000
namespace Go.Proofs.YtigdcgklpapfbaaGreatDoor
open Go Go.Proofs Go.ChangeShapes Go.WideShapes Go.ChangeAt Go.RowKit
open Go.ChangeMaps (open_string)

theorem kvalid_said : Rows.CoursefileValidSaid :=
  OpenClaim.holds_of_cond 3 Tryz.f3 rfl rfl rfl rfl rfl rfl rfl ⟨rfl, rfl, rfl, rfl, rfl⟩ rfl rfl rfl rfl rfl (by kernel_rfl) Tryz.func3 kvalid_closed
    (of_decide_eq_true (by kernel_rfl)) (by unfold Func.isWrapper; first | (rw [if_pos (by decide +kernel)]; kernel_rfl) | (rw [if_neg (by decide +kernel)]; exact ⟨rfl, rfl⟩))
    (fun os started H enc _ F => by rw [OpenClaim.pre_eq_preRow]; exact kvalid_lifted os started H enc F)

theorem kvalid_plain (f : FuncId) (fn : Func) (hf : Tryz.pinned.checked.prog.funcNamed "timetable/timetablelaw10.CoursefileValid" = some f) (hfn : Tryz.pinned.checked.prog.funcs[f]? = some fn) :
    true = Tryz.pinned.checked.prog.looks [] ∧ ∀ (j : Nat) t, fn.params[j]? = some t → Tryz.pinned.checked.prog.wantsStandIn t = false := by
  obtain rfl : f = 3 := Option.some.inj ((show Tryz.prog.funcNamed "timetable/timetablelaw10.CoursefileValid" = some 3 by kernel_rfl).symm.trans hf) |>.symm
  obtain rfl : fn = Tryz.f3 := (Option.some.inj (Tryz.func3.symm.trans hfn)).symm
  refine ⟨by kernel_rfl, fun j t ht => ?_⟩
  rw [Tryz.params3] at ht
  have hm := Array.mem_of_getElem? ht
  simp at hm
  rcases hm with rfl | rfl | rfl
  · exact (show Tryz.prog.wantsStandIn 22 = false by kernel_rfl)
  · exact (show Tryz.prog.wantsStandIn 24 = false by kernel_rfl)
  · exact (show Tryz.prog.wantsStandIn 3 = false by kernel_rfl)

/-- The card. -/
theorem kvalid_card : Rows.CoursefileValidCardSaid :=
  Claim7.holds_tied_plain_at .later [] _ _ _ _ kvalid_said (fun _ h => by cases h) (by kernel_rfl) (fun _ h => by cases h) coursefileValid_row_tie rfl ⟨rfl, rfl⟩ (by kernel_rfl) rfl kvalid_plain (by kernel_rfl)
end Go.Proofs.YtigdcgklpapfbaaGreatDoor
