/-
  The program and the specification agree on Parse, Format and Clock for made times and their texts with a change: the statement TimegridReadsMade, for every list of numbers. Conditions: those of the row.
-/
import Derived.Test.YtaijbdknaeeoeaaGreatDoorLaw
import Derived.Test.YtaijbdknaeeoeaaGreatDoorRMadeWalk
import Derived.Test.YtaijbdknaeeoeaaGreatDoorOpenI
set_option linter.unusedVariables false
set_option maxRecDepth 100000
namespace Go.Proofs.YtaijbdknaeeoeaaGreatDoor
open Go Go.Proofs Go.ChangeShapes Go.WideShapes Go.ChangeAt Go.RowKit
open Go.ChangeMaps (open_string)

theorem rmade_contract (H : Type) (enc : TypeId × Value → H) (W : World) (base : Nat) (args : Array Value) (ds gs : List (DataW H)) (before : List MemPlace)
    (hval : ∀ (j : Nat) t v, Tryz.f4.params[j]? = some t → args[j]? = some v → Value.okWide Tryz.prog W .any base t v)
    (hW : DataW.Whole enc Tryz.prog Tryz.f4.params.toList Rows.timegridReadsMadeSpec.vars false W args.toList ds gs before) (hE : Env W) (hWd : Words W) (hDy : Days W) (hRD : RDays W)
    (hsz : (DataW.weightsEach Tryz.prog (Tryz.f4.params.toList ++ (OpenSpec.ofChange Rows.timegridReadsMadeSpec).bare.plain.varTypes Tryz.prog) (ds ++ gs)).all (· ≤ reachBytes) = true) :
    Calls Tryz.prog 4 args W fun e W' => ∃ v, e = .returned v ∧ Rows.timegridReadsMadeSpec.post enc Tryz.prog Tryz.f4 false true false false W args v W' := by
  have hW' := hW
  obtain ⟨p, q, hA0, hV, rfl, hfz, hnd⟩ := hW
  have hA : DataW.TrodAll enc Tryz.prog W 0 (fun _ => true) true Tryz.f4.params.toList args.toList ds p := hA0
  rw [Tryz.params4] at hA hval hsz
  obtain ⟨v0, vs0, d0, ds0, p0, q0, hargs, rfl, rfl, h0, r0⟩ := trodAll_cons hA
  obtain ⟨rfl, rfl, rfl⟩ := trodAll_nil r0
  obtain rfl : args = #[v0] := by cases args; simp_all
  obtain ⟨rfl, rfl⟩ := trodVars_none hV
  obtain ⟨A, L, c, rfl, hI, hlen⟩ := open_intlist (hval 0 35 v0 rfl rfl) h0

  refine (rmade_any A L c hlen W hE hWd hDy hRD hI).mono fun e W' ⟨he, hbw⟩ => ?_
  subst he
  exact ⟨_, rfl, law_post laidOut (fun t ht => by rw [Tryz.params4] at ht; obtain rfl : t = 35 := (by simpa using ht); exact rowInts) rfl Tryz.underlying4 rfl rfl hW' hbw⟩

theorem rmade_laid (os : Os) : laidMet Tryz.prog Rows.timegridReadsMadeRow.laid ((laidWorld os).forCall (fun _ _ => 0) ⟨#[], #[.slice none 0 0], []⟩).memory :=
  laidMet_of_run' 8 (by kernel_rfl) (by kernel_rfl)
theorem rmade_reads (os : Os) {H : Type} (enc : TypeId × Value → H) : ∃ places, DataW.whole enc Tryz.prog ((laidWorld os).forCall (fun _ _ => 0) ⟨#[], #[.slice none 0 0], []⟩).memory Tryz.f4.params.toList Rows.timegridReadsMadeSpec.vars false #[Value.slice none 0 0].toList 8 = some ([.nil], [], places) :=
  ⟨[], by kernel_rfl⟩

theorem rmade_lifted (os : Os) (started : os.Started) (H : Type) (enc : TypeId × Value → H) (F : Stop.Interp) :
    ReturnsInHanded {} Tryz.checked os 4 .any ((OpenSpec.ofChange Rows.timegridReadsMadeSpec).preRow enc Tryz.prog Tryz.f4 Rows.timegridReadsMadeRow.domain false Rows.timegridReadsMadeRow.laid) (((OpenSpec.ofChange Rows.timegridReadsMadeSpec).at F).post enc Tryz.prog Tryz.f4 false true false false) := by
  obtain ⟨places, hx⟩ := rmade_reads os enc
  refine returnsInHanded_of_row (C := Tryz.checked) (s := OpenSpec.ofChange Rows.timegridReadsMadeSpec) own started (by kernel_rfl) Tryz.func4
    (witness_row_atRef (enc := enc) (C := Tryz.checked) false (laidWorld os) #[.slice none 0 0] rfl (by kernel_rfl) (by kernel_rfl) (by kernel_rfl)
      (OpenSpec.preRow_of_cond 8 hx (by kernel_rfl) (fun k hk => by cases hk) (by kernel_rfl) (rmade_laid os))) ?_
  intro W base args ds gs before hval hW _ _ hsz hL hsh _
  exact rmade_contract H enc W base args ds gs before hval hW (env_of0 hL) (words_of0 hL) (days_of0 hL) (rdays_of0 hL) hsz

theorem rmade_said : Rows.TimegridReadsMadeSaid :=
  OpenClaim.holds_of_cond 4 Tryz.f4 rfl rfl rfl rfl rfl rfl rfl ⟨rfl, rfl, rfl, rfl, rfl⟩ rfl rfl rfl rfl rfl (by kernel_rfl) Tryz.func4 (by kernel_rfl)
    (of_decide_eq_true (by kernel_rfl)) (by unfold Func.isWrapper; first | (rw [if_pos (by decide +kernel)]; kernel_rfl) | (rw [if_neg (by decide +kernel)]; exact ⟨rfl, rfl⟩))
    (fun os started H enc _ F => by rw [OpenClaim.pre_eq_preRow]; exact rmade_lifted os started H enc F)

theorem rmade_plain (f : FuncId) (fn : Func) (hf : Tryz.pinned.checked.prog.funcNamed "timetable/timetablelaw06.TimegridReadsMade" = some f) (hfn : Tryz.pinned.checked.prog.funcs[f]? = some fn) :
    true = Tryz.pinned.checked.prog.looks [] ∧ ∀ (j : Nat) t, fn.params[j]? = some t → Tryz.pinned.checked.prog.wantsStandIn t = false := by
  obtain rfl : f = 4 := Option.some.inj ((show Tryz.prog.funcNamed "timetable/timetablelaw06.TimegridReadsMade" = some 4 by kernel_rfl).symm.trans hf) |>.symm
  obtain rfl : fn = Tryz.f4 := (Option.some.inj (Tryz.func4.symm.trans hfn)).symm
  refine ⟨by kernel_rfl, fun j t ht => ?_⟩
  rw [Tryz.params4] at ht
  have hm := Array.mem_of_getElem? ht
  obtain rfl : t = 35 := by simpa using hm
  exact (show Tryz.prog.wantsStandIn 35 = false by kernel_rfl)

/-- The card. -/
theorem rmade_card : Rows.TimegridReadsMadeCardSaid :=
  Claim7.holds_tied_plain_at .later [] _ _ _ _ rmade_said (fun _ h => by cases h) (by kernel_rfl) (fun _ h => by cases h) timegridReadsMade_row_tie rfl ⟨rfl, rfl⟩ (by kernel_rfl) rfl rmade_plain (by kernel_rfl)
end Go.Proofs.YtaijbdknaeeoeaaGreatDoor
