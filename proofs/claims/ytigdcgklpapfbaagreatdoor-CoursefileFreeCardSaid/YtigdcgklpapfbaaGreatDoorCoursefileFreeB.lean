/-
  A class without starts can begin wherever it ends on the same day: the statement CoursefileFree, for every list of numbers and any number. Conditions: those of the row.
-/
import Derived.Test.YtigdcgklpapfbaaGreatDoorVA01
import Derived.Test.YtigdcgklpapfbaaGreatDoorVA02
import Derived.Test.YtigdcgklpapfbaaGreatDoorVA03
import Derived.Test.YtigdcgklpapfbaaGreatDoorVA04
import Derived.Test.YtigdcgklpapfbaaGreatDoorVA05
import Derived.Test.YtigdcgklpapfbaaGreatDoorVA06
import Derived.Test.YtigdcgklpapfbaaGreatDoorVA07
import Derived.Test.YtigdcgklpapfbaaGreatDoorVA08
import Derived.Test.YtigdcgklpapfbaaGreatDoorVA09
import Derived.Test.YtigdcgklpapfbaaGreatDoorVA10
import Derived.Test.YtigdcgklpapfbaaGreatDoorVA11
import Derived.Test.YtigdcgklpapfbaaGreatDoorVA12
import Derived.Test.YtigdcgklpapfbaaGreatDoorVA13
import Derived.Test.YtigdcgklpapfbaaGreatDoorVA14
import Derived.Test.YtigdcgklpapfbaaGreatDoorVA15
import Derived.Test.YtigdcgklpapfbaaGreatDoorVA16
import Derived.Test.YtigdcgklpapfbaaGreatDoorVA17
import Derived.Test.YtigdcgklpapfbaaGreatDoorVA18
import Derived.Test.YtigdcgklpapfbaaGreatDoorVA19
import Derived.Test.YtigdcgklpapfbaaGreatDoorVA20
import Derived.Test.YtigdcgklpapfbaaGreatDoorVA21
import Derived.Test.YtigdcgklpapfbaaGreatDoorVA22
import Derived.Test.YtigdcgklpapfbaaGreatDoorVA23
import Derived.Test.YtigdcgklpapfbaaGreatDoorVA24
import Derived.Test.YtigdcgklpapfbaaGreatDoorVA25
import Derived.Test.YtigdcgklpapfbaaGreatDoorVA26
set_option linter.unusedVariables false
set_option maxRecDepth 100000
namespace Go.Proofs.YtigdcgklpapfbaaGreatDoor
open Go Go.Proofs Go.ChangeShapes Go.WideShapes Go.ChangeAt Go.RowKit
open Go.ChangeMaps (open_string)

theorem freec_contract (H : Type) (enc : TypeId × Value → H) (W : World) (base : Nat) (args : Array Value) (ds gs : List (DataW H)) (before : List MemPlace)
    (hval : ∀ (j : Nat) t v, Tryz.f7.params[j]? = some t → args[j]? = some v → Value.okWide Tryz.prog W .any base t v)
    (hW : DataW.Whole enc Tryz.prog Tryz.f7.params.toList Rows.coursefileFreeSpec.vars false W args.toList ds gs before) (hE : Env7 W)
    (hsz : (DataW.weightsEach Tryz.prog (Tryz.f7.params.toList ++ (OpenSpec.ofChange Rows.coursefileFreeSpec).bare.plain.varTypes Tryz.prog) (ds ++ gs)).all (· ≤ reachBytes) = true) :
    Calls Tryz.prog 7 args W fun e W' => ∃ v, e = .returned v ∧ Rows.coursefileFreeSpec.post enc Tryz.prog Tryz.f7 false true false false W args v W' := by
  have hW' := hW
  obtain ⟨p, q, hA0, hV, rfl, hfz, hnd⟩ := hW
  have hA : DataW.TrodAll enc Tryz.prog W 0 (fun _ => true) true Tryz.f7.params.toList args.toList ds p := hA0
  rw [Tryz.params7] at hA hval hsz
  obtain ⟨v0, vs0, d0, ds0, p0, q0, hargs, rfl, rfl, h0, r0⟩ := trodAll_cons hA
  obtain ⟨v1, vs1, d1, ds1, p1, q1, rfl, rfl, rfl, h1, r1⟩ := trodAll_cons r0
  obtain ⟨rfl, rfl, rfl⟩ := trodAll_nil r1
  obtain rfl : args = #[v0, v1] := by cases args; simp_all
  obtain ⟨rfl, rfl⟩ := trodVars_none hV
  obtain ⟨A, L, c, rfl, hI, hlen⟩ := open_intlist (hval 0 29 v0 rfl rfl) h0
  obtain ⟨wk, rfl, rfl, rfl, _⟩ := open_int Tryz.underlying3 (hval 1 3 v1 rfl rfl) h1

  refine (S10.free_any A L c wk hlen W hE hI).mono fun e W' ⟨he, hbw⟩ => ?_
  subst he
  exact ⟨_, rfl, law_post laidOut (fun t ht => by rw [Tryz.params7] at ht; simp at ht; rcases ht with rfl | rfl; exact rowInts; exact row3) rfl Tryz.underlying4 rfl rfl hW' hbw⟩

theorem freec_laid (os : Os) : laidMet Tryz.prog Rows.coursefileFreeRow.laid ((laidWorld os).forCall (fun _ _ => 0) ⟨#[], #[.slice none 0 0, .int .i64 0], []⟩).memory :=
  laidMet_of_run' 8 (by kernel_rfl) (by kernel_rfl)
theorem freec_reads (os : Os) {H : Type} (enc : TypeId × Value → H) : ∃ places, DataW.whole enc Tryz.prog ((laidWorld os).forCall (fun _ _ => 0) ⟨#[], #[.slice none 0 0, .int .i64 0], []⟩).memory Tryz.f7.params.toList Rows.coursefileFreeSpec.vars false #[Value.slice none 0 0, Value.int .i64 0].toList 8 = some ([.nil, .lit (.int .i64 0)], [], places) :=
  ⟨[], by kernel_rfl⟩

theorem freec_lifted (os : Os) (started : os.Started) (H : Type) (enc : TypeId × Value → H) (F : Stop.Interp) :
    ReturnsInHanded {} Tryz.checked os 7 .any ((OpenSpec.ofChange Rows.coursefileFreeSpec).preRow enc Tryz.prog Tryz.f7 Rows.coursefileFreeRow.domain false Rows.coursefileFreeRow.laid) (((OpenSpec.ofChange Rows.coursefileFreeSpec).at F).post enc Tryz.prog Tryz.f7 false true false false) := by
  obtain ⟨places, hx⟩ := freec_reads os enc
  refine returnsInHanded_of_row (C := Tryz.checked) (s := OpenSpec.ofChange Rows.coursefileFreeSpec) own started (by kernel_rfl) Tryz.func7
    (witness_row_atRef (enc := enc) (C := Tryz.checked) false (laidWorld os) #[.slice none 0 0, .int .i64 0] rfl (by kernel_rfl) (by kernel_rfl) (by kernel_rfl)
      (OpenSpec.preRow_of_cond 8 hx (by kernel_rfl) (fun k hk => by cases hk) (by kernel_rfl) (freec_laid os))) ?_
  intro W base args ds gs before hval hW _ _ hsz hL hsh _
  exact freec_contract H enc W base args ds gs before hval hW (env7_ofL hL hsh (.tail _ (.tail _ (.tail _ (.tail _ (.tail _ (.tail _ (.head _))))))) (.tail _ (.tail _ (.tail _ (.tail _ (.tail _ (.tail _ (.tail _ (.head _)))))))) (.tail _ (.tail _ (.head _))) (errSyntax_ofL hL.tail.tail.tail.tail.tail)) hsz

theorem freec_said : Rows.CoursefileFreeSaid :=
  OpenClaim.holds_of_cond 7 Tryz.f7 rfl rfl rfl rfl rfl rfl rfl ⟨rfl, rfl, rfl, rfl, rfl⟩ rfl rfl rfl rfl rfl (by kernel_rfl) Tryz.func7 (by kernel_rfl)
    (of_decide_eq_true (by kernel_rfl)) (by unfold Func.isWrapper; first | (rw [if_pos (by decide +kernel)]; kernel_rfl) | (rw [if_neg (by decide +kernel)]; exact ⟨rfl, rfl⟩))
    (fun os started H enc _ F => by rw [OpenClaim.pre_eq_preRow]; exact freec_lifted os started H enc F)

theorem freec_plain (f : FuncId) (fn : Func) (hf : Tryz.pinned.checked.prog.funcNamed "timetable/timetablelaw10.CoursefileFree" = some f) (hfn : Tryz.pinned.checked.prog.funcs[f]? = some fn) :
    true = Tryz.pinned.checked.prog.looks [] ∧ ∀ (j : Nat) t, fn.params[j]? = some t → Tryz.pinned.checked.prog.wantsStandIn t = false := by
  obtain rfl : f = 7 := Option.some.inj ((show Tryz.prog.funcNamed "timetable/timetablelaw10.CoursefileFree" = some 7 by kernel_rfl).symm.trans hf) |>.symm
  obtain rfl : fn = Tryz.f7 := (Option.some.inj (Tryz.func7.symm.trans hfn)).symm
  refine ⟨by kernel_rfl, fun j t ht => ?_⟩
  rw [Tryz.params7] at ht
  have hm := Array.mem_of_getElem? ht
  simp at hm
  rcases hm with rfl | rfl
  · exact (show Tryz.prog.wantsStandIn 29 = false by kernel_rfl)
  · exact (show Tryz.prog.wantsStandIn 3 = false by kernel_rfl)

/-- The card. -/
theorem freec_card : Rows.CoursefileFreeCardSaid :=
  Claim7.holds_tied_plain_at .later [] _ _ _ _ freec_said (fun _ h => by cases h) (by kernel_rfl) (fun _ h => by cases h) coursefileFree_row_tie rfl ⟨rfl, rfl⟩ (by kernel_rfl) rfl freec_plain (by kernel_rfl)
end Go.Proofs.YtigdcgklpapfbaaGreatDoor
