/-
  A lecturer is away at any part of a time of Away, and free at times that do not touch it: the statement StafffileAway, for every list of numbers and any two numbers. Conditions: those of the row.
-/
import Derived.Test.YtnpfmoalgphkcaaGreatDoorVA01
import Derived.Test.YtnpfmoalgphkcaaGreatDoorVA02
import Derived.Test.YtnpfmoalgphkcaaGreatDoorVA03
import Derived.Test.YtnpfmoalgphkcaaGreatDoorVA04
import Derived.Test.YtnpfmoalgphkcaaGreatDoorVA05
import Derived.Test.YtnpfmoalgphkcaaGreatDoorVA06
import Derived.Test.YtnpfmoalgphkcaaGreatDoorVA07
import Derived.Test.YtnpfmoalgphkcaaGreatDoorVA08
import Derived.Test.YtnpfmoalgphkcaaGreatDoorVA09
import Derived.Test.YtnpfmoalgphkcaaGreatDoorVA10
import Derived.Test.YtnpfmoalgphkcaaGreatDoorVA11
import Derived.Test.YtnpfmoalgphkcaaGreatDoorVA12
import Derived.Test.YtnpfmoalgphkcaaGreatDoorVA13
import Derived.Test.YtnpfmoalgphkcaaGreatDoorVA14
import Derived.Test.YtnpfmoalgphkcaaGreatDoorVA15
import Derived.Test.YtnpfmoalgphkcaaGreatDoorVA16
import Derived.Test.YtnpfmoalgphkcaaGreatDoorVA17
import Derived.Test.YtnpfmoalgphkcaaGreatDoorVA18
import Derived.Test.YtnpfmoalgphkcaaGreatDoorVA19
import Derived.Test.YtnpfmoalgphkcaaGreatDoorVA20
import Derived.Test.YtnpfmoalgphkcaaGreatDoorVA21
import Derived.Test.YtnpfmoalgphkcaaGreatDoorVA22
import Derived.Test.YtnpfmoalgphkcaaGreatDoorVA23
import Derived.Test.YtnpfmoalgphkcaaGreatDoorVA24
import Derived.Test.YtnpfmoalgphkcaaGreatDoorVA25
import Derived.Test.YtnpfmoalgphkcaaGreatDoorVA26
import Derived.Test.YtnpfmoalgphkcaaGreatDoorVA27
import Derived.Test.YtnpfmoalgphkcaaGreatDoorVA28
import Derived.Test.YtnpfmoalgphkcaaGreatDoorVA29
import Derived.Test.YtnpfmoalgphkcaaGreatDoorVA30
import Derived.Test.YtnpfmoalgphkcaaGreatDoorVA31
import Derived.Test.YtnpfmoalgphkcaaGreatDoorWA01
import Derived.Test.YtnpfmoalgphkcaaGreatDoorWA02
import Derived.Test.YtnpfmoalgphkcaaGreatDoorWA03
set_option linter.unusedVariables false
set_option maxRecDepth 100000
namespace Go.Proofs.YtnpfmoalgphkcaaGreatDoor
open Go Go.Proofs Go.ChangeShapes Go.WideShapes Go.ChangeAt Go.RowKit
open Go.ChangeMaps (open_string)

theorem awayc_contract (H : Type) (enc : TypeId × Value → H) (W : World) (base : Nat) (args : Array Value) (ds gs : List (DataW H)) (before : List MemPlace)
    (hval : ∀ (j : Nat) t v, Tryz.f7.params[j]? = some t → args[j]? = some v → Value.okWide Tryz.prog W .any base t v)
    (hW : DataW.Whole enc Tryz.prog Tryz.f7.params.toList Rows.stafffileAwaySpec.vars false W args.toList ds gs before) (hE : Env7 W)
    (hsz : (DataW.weightsEach Tryz.prog (Tryz.f7.params.toList ++ (OpenSpec.ofChange Rows.stafffileAwaySpec).bare.plain.varTypes Tryz.prog) (ds ++ gs)).all (· ≤ reachBytes) = true) :
    Calls Tryz.prog 7 args W fun e W' => ∃ v, e = .returned v ∧ Rows.stafffileAwaySpec.post enc Tryz.prog Tryz.f7 false true false false W args v W' := by
  have hW' := hW
  obtain ⟨p, q, hA0, hV, rfl, hfz, hnd⟩ := hW
  have hA : DataW.TrodAll enc Tryz.prog W 0 (fun _ => true) true Tryz.f7.params.toList args.toList ds p := hA0
  rw [Tryz.params7] at hA hval hsz
  obtain ⟨v0, vs0, d0, ds0, p0, q0, hargs, rfl, rfl, h0, r0⟩ := trodAll_cons hA
  obtain ⟨v1, vs1, d1, ds1, p1, q1, rfl, rfl, rfl, h1, r1⟩ := trodAll_cons r0
  obtain ⟨v2, vs2, d2, ds2, p2, q2, rfl, rfl, rfl, h2, r2⟩ := trodAll_cons r1
  obtain ⟨rfl, rfl, rfl⟩ := trodAll_nil r2
  obtain rfl : args = #[v0, v1, v2] := by cases args; simp_all
  obtain ⟨rfl, rfl⟩ := trodVars_none hV
  obtain ⟨A, L, c, rfl, hI, hlen⟩ := open_intlist (hval 0 49 v0 rfl rfl) h0
  obtain ⟨wk, rfl, rfl, rfl, _⟩ := open_int Tryz.underlying3 (hval 1 3 v1 rfl rfl) h1
  obtain ⟨sl, rfl, rfl, rfl, _⟩ := open_int Tryz.underlying3 (hval 2 3 v2 rfl rfl) h2

  refine (away_any A L c wk sl hlen W hE hI).mono fun e W' ⟨he, hbw⟩ => ?_
  subst he
  exact ⟨_, rfl, law_post laidOut (fun t ht => by rw [Tryz.params7] at ht; simp at ht; rcases ht with rfl | rfl; exact rowInts; exact row3) rfl Tryz.underlying4 rfl rfl hW' hbw⟩

theorem awayc_laid (os : Os) : laidMet Tryz.prog Rows.stafffileAwayRow.laid ((laidWorld os).forCall (fun _ _ => 0) ⟨#[], #[.slice none 0 0, .int .i64 0, .int .i64 0], []⟩).memory :=
  laidMet_of_run' 8 (by kernel_rfl) (by kernel_rfl)
theorem awayc_reads (os : Os) {H : Type} (enc : TypeId × Value → H) : ∃ places, DataW.whole enc Tryz.prog ((laidWorld os).forCall (fun _ _ => 0) ⟨#[], #[.slice none 0 0, .int .i64 0, .int .i64 0], []⟩).memory Tryz.f7.params.toList Rows.stafffileAwaySpec.vars false #[Value.slice none 0 0, Value.int .i64 0, Value.int .i64 0].toList 8 = some ([.nil, .lit (.int .i64 0), .lit (.int .i64 0)], [], places) :=
  ⟨[], by kernel_rfl⟩

theorem awayc_lifted (os : Os) (started : os.Started) (H : Type) (enc : TypeId × Value → H) (F : Stop.Interp) :
    ReturnsInHanded {} Tryz.checked os 7 .any ((OpenSpec.ofChange Rows.stafffileAwaySpec).preRow enc Tryz.prog Tryz.f7 Rows.stafffileAwayRow.domain false Rows.stafffileAwayRow.laid) (((OpenSpec.ofChange Rows.stafffileAwaySpec).at F).post enc Tryz.prog Tryz.f7 false true false false) := by
  obtain ⟨places, hx⟩ := awayc_reads os enc
  refine returnsInHanded_of_row (C := Tryz.checked) (s := OpenSpec.ofChange Rows.stafffileAwaySpec) own started (by kernel_rfl) Tryz.func7
    (witness_row_atRef (enc := enc) (C := Tryz.checked) false (laidWorld os) #[.slice none 0 0, .int .i64 0, .int .i64 0] rfl (by kernel_rfl) (by kernel_rfl) (by kernel_rfl)
      (OpenSpec.preRow_of_cond 8 hx (by kernel_rfl) (fun k hk => by cases hk) (by kernel_rfl) (awayc_laid os))) ?_
  intro W base args ds gs before hval hW _ _ hsz hL hsh _
  exact awayc_contract H enc W base args ds gs before hval hW (env7_ofL hL hsh (.tail _ (.tail _ (.tail _ (.tail _ (.tail _ (.tail _ (.head _))))))) (.tail _ (.tail _ (.tail _ (.tail _ (.tail _ (.tail _ (.tail _ (.head _)))))))) (.tail _ (.tail _ (.head _))) (errSyntax_ofL hL.tail.tail.tail.tail.tail)) hsz

theorem awayc_said : Rows.StafffileAwaySaid :=
  OpenClaim.holds_of_cond 7 Tryz.f7 rfl rfl rfl rfl rfl rfl rfl ⟨rfl, rfl, rfl, rfl, rfl⟩ rfl rfl rfl rfl rfl (by kernel_rfl) Tryz.func7 (by kernel_rfl)
    (of_decide_eq_true (by kernel_rfl)) (by unfold Func.isWrapper; first | (rw [if_pos (by decide +kernel)]; kernel_rfl) | (rw [if_neg (by decide +kernel)]; exact ⟨rfl, rfl⟩))
    (fun os started H enc _ F => by rw [OpenClaim.pre_eq_preRow]; exact awayc_lifted os started H enc F)

theorem awayc_plain (f : FuncId) (fn : Func) (hf : Tryz.pinned.checked.prog.funcNamed "timetable/timetablelaw09.StafffileAway" = some f) (hfn : Tryz.pinned.checked.prog.funcs[f]? = some fn) :
    true = Tryz.pinned.checked.prog.looks [] ∧ ∀ (j : Nat) t, fn.params[j]? = some t → Tryz.pinned.checked.prog.wantsStandIn t = false := by
  obtain rfl : f = 7 := Option.some.inj ((show Tryz.prog.funcNamed "timetable/timetablelaw09.StafffileAway" = some 7 by kernel_rfl).symm.trans hf) |>.symm
  obtain rfl : fn = Tryz.f7 := (Option.some.inj (Tryz.func7.symm.trans hfn)).symm
  refine ⟨by kernel_rfl, fun j t ht => ?_⟩
  rw [Tryz.params7] at ht
  have hm := Array.mem_of_getElem? ht
  simp at hm
  rcases hm with rfl | rfl
  · exact (show Tryz.prog.wantsStandIn 49 = false by kernel_rfl)
  · exact (show Tryz.prog.wantsStandIn 3 = false by kernel_rfl)

/-- The card. -/
theorem awayc_card : Rows.StafffileAwayCardSaid :=
  Claim7.holds_tied_plain_at .later [] _ _ _ _ awayc_said (fun _ h => by cases h) (by kernel_rfl) (fun _ h => by cases h) stafffileAway_row_tie rfl ⟨rfl, rfl⟩ (by kernel_rfl) rfl awayc_plain (by kernel_rfl)
end Go.Proofs.YtnpfmoalgphkcaaGreatDoor
