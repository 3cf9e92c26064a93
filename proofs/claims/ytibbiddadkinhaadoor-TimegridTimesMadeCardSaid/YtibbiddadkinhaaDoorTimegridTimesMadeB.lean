/-
  The program and the specification agree on Valid, Sound, Fits, Overlap, Between and Before for made times and odd ones: the statement TimegridTimesMade, for every list of numbers. Conditions: those of the row.
-/
import Derived.Test.YtibbiddadkinhaaDoorHT01
import Derived.Test.YtibbiddadkinhaaDoorHT02
import Derived.Test.YtibbiddadkinhaaDoorHT03
import Derived.Test.YtibbiddadkinhaaDoorHT04
import Derived.Test.YtibbiddadkinhaaDoorHT05
import Derived.Test.YtibbiddadkinhaaDoorHT06
import Derived.Test.YtibbiddadkinhaaDoorHT07
import Derived.Test.YtibbiddadkinhaaDoorHT08
import Derived.Test.YtibbiddadkinhaaDoorHT09
import Derived.Test.YtibbiddadkinhaaDoorHT10
import Derived.Test.YtibbiddadkinhaaDoorHR01
import Derived.Test.YtibbiddadkinhaaDoorHR02
import Derived.Test.YtibbiddadkinhaaDoorHR03
import Derived.Test.YtibbiddadkinhaaDoorHR04
import Derived.Test.YtibbiddadkinhaaDoorHR05
import Derived.Test.YtibbiddadkinhaaDoorHM01
import Derived.Test.YtibbiddadkinhaaDoorHM02
set_option linter.unusedVariables false
set_option maxRecDepth 100000
namespace Go.Proofs.YtibbiddadkinhaaDoor
open Go Go.Proofs Go.ChangeShapes Go.WideShapes Go.ChangeAt Go.RowKit
open Go.ChangeMaps (open_string)

theorem tmade_contract (H : Type) (enc : TypeId × Value → H) (W : World) (base : Nat) (args : Array Value) (ds gs : List (DataW H)) (before : List MemPlace)
    (hval : ∀ (j : Nat) t v, Tryd.f4.params[j]? = some t → args[j]? = some v → Value.okWide Tryd.prog W .any base t v)
    (hW : DataW.Whole enc Tryd.prog Tryd.f4.params.toList Rows.timegridTimesMadeSpec.vars false W args.toList ds gs before) (hE : Env W) (hDy : Days W)
    (hsz : (DataW.weightsEach Tryd.prog (Tryd.f4.params.toList ++ (OpenSpec.ofChange Rows.timegridTimesMadeSpec).bare.plain.varTypes Tryd.prog) (ds ++ gs)).all (· ≤ reachBytes) = true) :
    Calls Tryd.prog 4 args W fun e W' => ∃ v, e = .returned v ∧ Rows.timegridTimesMadeSpec.post enc Tryd.prog Tryd.f4 false true false false W args v W' := by
  have hW' := hW
  obtain ⟨p, q, hA0, hV, rfl, hfz, hnd⟩ := hW
  have hA : DataW.TrodAll enc Tryd.prog W 0 (fun _ => true) true Tryd.f4.params.toList args.toList ds p := hA0
  rw [Tryd.params4] at hA hval hsz
  obtain ⟨v0, vs0, d0, ds0, p0, q0, hargs, rfl, rfl, h0, r0⟩ := trodAll_cons hA
  obtain ⟨rfl, rfl, rfl⟩ := trodAll_nil r0
  obtain rfl : args = #[v0] := by cases args; simp_all
  obtain ⟨rfl, rfl⟩ := trodVars_none hV
  obtain ⟨A, L, c, rfl, hI, hlen⟩ := open_intlist (hval 0 36 v0 rfl rfl) h0

  refine (tmade_any A L c hlen W hE hDy hI).mono fun e W' ⟨he, hbw⟩ => ?_
  subst he
  exact ⟨_, rfl, law_post laidOut (fun t ht => by rw [Tryd.params4] at ht; obtain rfl : t = 36 := (by simpa using ht); exact rowInts) rfl Tryd.underlying4 rfl rfl hW' hbw⟩

theorem tmade_laid (os : Os) : laidMet Tryd.prog Rows.timegridTimesMadeRow.laid ((laidWorld os).forCall (fun _ _ => 0) ⟨#[], #[.slice none 0 0], []⟩).memory :=
  laidMet_of_run' 8 (by kernel_rfl) (by kernel_rfl)
theorem tmade_reads (os : Os) {H : Type} (enc : TypeId × Value → H) : ∃ places, DataW.whole enc Tryd.prog ((laidWorld os).forCall (fun _ _ => 0) ⟨#[], #[.slice none 0 0], []⟩).memory Tryd.f4.params.toList Rows.timegridTimesMadeSpec.vars false #[Value.slice none 0 0].toList 8 = some ([.nil], [], places) :=
  ⟨[], by kernel_rfl⟩

theorem tmade_lifted (os : Os) (started : os.Started) (H : Type) (enc : TypeId × Value → H) (F : Stop.Interp) :
    ReturnsInHanded {} Tryd.checked os 4 .any ((OpenSpec.ofChange Rows.timegridTimesMadeSpec).preRow enc Tryd.prog Tryd.f4 Rows.timegridTimesMadeRow.domain false Rows.timegridTimesMadeRow.laid) (((OpenSpec.ofChange Rows.timegridTimesMadeSpec).at F).post enc Tryd.prog Tryd.f4 false true false false) := by
  obtain ⟨places, hx⟩ := tmade_reads os enc
  refine returnsInHanded_of_row (C := Tryd.checked) (s := OpenSpec.ofChange Rows.timegridTimesMadeSpec) own started (by kernel_rfl) Tryd.func4
    (witness_row_atRef (enc := enc) (C := Tryd.checked) false (laidWorld os) #[.slice none 0 0] rfl (by kernel_rfl) (by kernel_rfl) (by kernel_rfl)
      (OpenSpec.preRow_of_cond 8 hx (by kernel_rfl) (fun k hk => by cases hk) (by kernel_rfl) (tmade_laid os))) ?_
  intro W base args ds gs before hval hW _ _ hsz hL hsh _
  exact tmade_contract H enc W base args ds gs before hval hW (env_ofL (names_ofL hL (.tail _ (.tail _ (.tail _ (.tail _ (.tail _ (.tail _ (.head _)))))))) (errSyntax_ofL hL.tail.tail.tail.tail.tail)) (days_ofL hL (.tail _ (.tail _ (.tail _ (.tail _ (.tail _ (.tail _ (.tail _ (.head _))))))))) hsz

theorem tmade_said : Rows.TimegridTimesMadeSaid :=
  OpenClaim.holds_of_cond 4 Tryd.f4 rfl rfl rfl rfl rfl rfl rfl ⟨rfl, rfl, rfl, rfl, rfl⟩ rfl rfl rfl rfl rfl (by kernel_rfl) Tryd.func4 (by kernel_rfl)
    (of_decide_eq_true (by kernel_rfl)) (by unfold Func.isWrapper; first | (rw [if_pos (by decide +kernel)]; kernel_rfl) | (rw [if_neg (by decide +kernel)]; exact ⟨rfl, rfl⟩))
    (fun os started H enc _ F => by rw [OpenClaim.pre_eq_preRow]; exact tmade_lifted os started H enc F)

theorem tmade_plain (f : FuncId) (fn : Func) (hf : Tryd.pinned.checked.prog.funcNamed "timetable/timetablelaw06.TimegridTimesMade" = some f) (hfn : Tryd.pinned.checked.prog.funcs[f]? = some fn) :
    true = Tryd.pinned.checked.prog.looks [] ∧ ∀ (j : Nat) t, fn.params[j]? = some t → Tryd.pinned.checked.prog.wantsStandIn t = false := by
  obtain rfl : f = 4 := Option.some.inj ((show Tryd.prog.funcNamed "timetable/timetablelaw06.TimegridTimesMade" = some 4 by kernel_rfl).symm.trans hf) |>.symm
  obtain rfl : fn = Tryd.f4 := (Option.some.inj (Tryd.func4.symm.trans hfn)).symm
  refine ⟨by kernel_rfl, fun j t ht => ?_⟩
  rw [Tryd.params4] at ht
  have hm := Array.mem_of_getElem? ht
  obtain rfl : t = 36 := by simpa using hm
  exact (show Tryd.prog.wantsStandIn 36 = false by kernel_rfl)

/-- The card. -/
theorem tmade_card : Rows.TimegridTimesMadeCardSaid :=
  Claim7.holds_tied_plain_at .later [] _ _ _ _ tmade_said (fun _ h => by cases h) (by kernel_rfl) (fun _ h => by cases h) timegridTimesMade_row_tie rfl ⟨rfl, rfl⟩ (by kernel_rfl) rfl tmade_plain (by kernel_rfl)
end Go.Proofs.YtibbiddadkinhaaDoor
