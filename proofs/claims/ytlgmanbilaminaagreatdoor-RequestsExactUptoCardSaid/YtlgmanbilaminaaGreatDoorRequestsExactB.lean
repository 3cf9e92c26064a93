/-
  The program and the specification agree on Valid, Write, Read, Students and Wanted: the statement RequestsExact where what came in is of bulk at most 1048576. Conditions: those of the row.
-/
import Derived.Test.YtlgmanbilaminaaGreatDoorXN01
import Derived.Test.YtlgmanbilaminaaGreatDoorXN02
import Derived.Test.YtlgmanbilaminaaGreatDoorXN03
import Derived.Test.YtlgmanbilaminaaGreatDoorXN04
import Derived.Test.YtlgmanbilaminaaGreatDoorXN05
import Derived.Test.YtlgmanbilaminaaGreatDoorXN06
import Derived.Test.YtlgmanbilaminaaGreatDoorXN07
import Derived.Test.YtlgmanbilaminaaGreatDoorXN08
import Derived.Test.YtlgmanbilaminaaGreatDoorXN09
import Derived.Test.YtlgmanbilaminaaGreatDoorXN10
import Derived.Test.YtlgmanbilaminaaGreatDoorXN11
import Derived.Test.YtlgmanbilaminaaGreatDoorXN12
import Derived.Test.YtlgmanbilaminaaGreatDoorXN13
import Derived.Test.YtlgmanbilaminaaGreatDoorXN14
import Derived.Test.YtlgmanbilaminaaGreatDoorXN15
import Derived.Test.YtlgmanbilaminaaGreatDoorXN16
import Derived.Test.YtlgmanbilaminaaGreatDoorXN17
import Derived.Test.YtlgmanbilaminaaGreatDoorXN18
import Derived.Test.YtlgmanbilaminaaGreatDoorXN19
import Derived.Test.YtlgmanbilaminaaGreatDoorXN20
import Derived.Test.YtlgmanbilaminaaGreatDoorXN21
import Derived.Test.YtlgmanbilaminaaGreatDoorXN22
import Derived.Test.YtlgmanbilaminaaGreatDoorXN23
import Derived.Test.YtlgmanbilaminaaGreatDoorXN24
import Derived.Test.YtlgmanbilaminaaGreatDoorXN25
import Derived.Test.YtlgmanbilaminaaGreatDoorXN26
import Derived.Test.YtlgmanbilaminaaGreatDoorXN27
import Derived.Test.YtlgmanbilaminaaGreatDoorXN28
import Derived.Test.YtlgmanbilaminaaGreatDoorXN29
import Derived.Test.YtlgmanbilaminaaGreatDoorXN30
import Derived.Test.YtlgmanbilaminaaGreatDoorXN31
import Derived.Test.YtlgmanbilaminaaGreatDoorXN32
import Derived.Test.YtlgmanbilaminaaGreatDoorXN33
import Derived.Test.YtlgmanbilaminaaGreatDoorXN34
import Derived.Test.YtlgmanbilaminaaGreatDoorXN35
import Derived.Test.YtlgmanbilaminaaGreatDoorXN36
import Derived.Test.YtlgmanbilaminaaGreatDoorXN37
set_option linter.unusedVariables false
set_option maxRecDepth 100000
namespace Go.Proofs.YtlgmanbilaminaaGreatDoor
open Go Go.Proofs Go.Proofs.YtlgmanbilaminaaGreatDoor.S12 Go.ChangeShapes Go.WideShapes Go.ChangeAt Go.RowKit
open Go.ChangeMaps (open_string)

theorem qexact_said : Rows.RequestsExactUptoSaid :=
  OpenClaim.holds_of_cond 3 Tryz.f3 rfl rfl rfl rfl rfl rfl rfl ⟨rfl, rfl, rfl, rfl, rfl⟩ rfl rfl rfl rfl rfl (by kernel_rfl) Tryz.func3 qexact_closed
    (of_decide_eq_true (by kernel_rfl)) (by unfold Func.isWrapper; first | (rw [if_pos (by decide +kernel)]; kernel_rfl) | (rw [if_neg (by decide +kernel)]; exact ⟨rfl, rfl⟩))
    (fun os started H enc _ F => by rw [OpenClaim.pre_eq_preRow]; exact qexact_lifted os started H enc F)

theorem qexact_plain (f : FuncId) (fn : Func) (hf : Tryz.pinned.checked.prog.funcNamed "timetable/timetablelaw12.RequestsExact" = some f) (hfn : Tryz.pinned.checked.prog.funcs[f]? = some fn) :
    true = Tryz.pinned.checked.prog.looks [] ∧ ∀ (j : Nat) t, fn.params[j]? = some t → Tryz.pinned.checked.prog.wantsStandIn t = false := by
  obtain rfl : f = 3 := Option.some.inj ((show Tryz.prog.funcNamed "timetable/timetablelaw12.RequestsExact" = some 3 by kernel_rfl).symm.trans hf) |>.symm
  obtain rfl : fn = Tryz.f3 := (Option.some.inj (Tryz.func3.symm.trans hfn)).symm
  refine ⟨by kernel_rfl, fun j t ht => ?_⟩
  rw [Tryz.params3] at ht
  have hm := Array.mem_of_getElem? ht
  simp at hm
  rcases hm with rfl | rfl | rfl
  · exact (show Tryz.prog.wantsStandIn 22 = false by kernel_rfl)
  · exact (show Tryz.prog.wantsStandIn 23 = false by kernel_rfl)
  · exact (show Tryz.prog.wantsStandIn 9 = false by kernel_rfl)

/-- The card. -/
theorem qexact_card : Rows.RequestsExactUptoCardSaid :=
  Claim7.holds_tied_plain_at .later [] _ _ _ _ qexact_said (fun _ h => by cases h) (by kernel_rfl) (fun _ h => by cases h) requestsExactUpto_row_tie rfl ⟨rfl, rfl⟩ (by kernel_rfl) rfl qexact_plain (by kernel_rfl)
end Go.Proofs.YtlgmanbilaminaaGreatDoor
