/-
  The program and the specification agree on all functions for made requests, odd ones, and their records with a change: the statement RequestsMade, for every list of numbers. Conditions: those of the row.
-/
import Derived.Test.YtlgmanbilaminaaGreatDoorMN31
set_option linter.unusedVariables false
set_option maxRecDepth 100000
namespace Go.Proofs.YtlgmanbilaminaaGreatDoor
open Go Go.Proofs Go.Proofs.YtlgmanbilaminaaGreatDoor.S12 Go.ChangeShapes Go.WideShapes Go.ChangeAt Go.RowKit
open Go.ChangeMaps (open_string)

theorem qmade_said : Rows.RequestsMadeSaid :=
  OpenClaim.holds_of_cond 4 Tryz.f4 rfl rfl rfl rfl rfl rfl rfl ⟨rfl, rfl, rfl, rfl, rfl⟩ rfl rfl rfl rfl rfl (by kernel_rfl) Tryz.func4 qmade_closed
    (of_decide_eq_true (by kernel_rfl)) (by unfold Func.isWrapper; first | (rw [if_pos (by decide +kernel)]; kernel_rfl) | (rw [if_neg (by decide +kernel)]; exact ⟨rfl, rfl⟩))
    (fun os started H enc _ F => by rw [OpenClaim.pre_eq_preRow]; exact qmade_lifted os started H enc F)

theorem qmade_plain (f : FuncId) (fn : Func) (hf : Tryz.pinned.checked.prog.funcNamed "timetable/timetablelaw12.RequestsMade" = some f) (hfn : Tryz.pinned.checked.prog.funcs[f]? = some fn) :
    true = Tryz.pinned.checked.prog.looks [] ∧ ∀ (j : Nat) t, fn.params[j]? = some t → Tryz.pinned.checked.prog.wantsStandIn t = false := by
  obtain rfl : f = 4 := Option.some.inj ((show Tryz.prog.funcNamed "timetable/timetablelaw12.RequestsMade" = some 4 by kernel_rfl).symm.trans hf) |>.symm
  obtain rfl : fn = Tryz.f4 := (Option.some.inj (Tryz.func4.symm.trans hfn)).symm
  refine ⟨by kernel_rfl, fun j t ht => ?_⟩
  rw [Tryz.params4] at ht
  have hm := Array.mem_of_getElem? ht
  obtain rfl : t = 44 := by simpa using hm
  exact (show Tryz.prog.wantsStandIn 44 = false by kernel_rfl)

/-- The card. -/
theorem qmade_card : Rows.RequestsMadeCardSaid :=
  Claim7.holds_tied_plain_at .later [] _ _ _ _ qmade_said (fun _ h => by cases h) (by kernel_rfl) (fun _ h => by cases h) requestsMade_row_tie rfl ⟨rfl, rfl⟩ (by kernel_rfl) rfl qmade_plain (by kernel_rfl)
end Go.Proofs.YtlgmanbilaminaaGreatDoor
