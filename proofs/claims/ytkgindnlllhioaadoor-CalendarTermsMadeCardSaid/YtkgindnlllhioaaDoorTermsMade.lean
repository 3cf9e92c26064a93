/-
  The program and the specification agree on Valid, At, Where and Days of made terms: the statement CalendarTermsMade, for every list of numbers. Conditions: those of the row; the table of the months holds what its text lays (tied by the card).
-/
import Derived.Test.YtkgindnlllhioaaDoorLaw
import Derived.Test.YtkgindnlllhioaaDoorTermsMadeWalk
import Derived.Test.YtkgindnlllhioaaDoorOpenI
set_option linter.unusedVariables false
set_option maxRecDepth 100000
namespace Go.Proofs.YtkgindnlllhioaaDoor
open Go Go.Proofs Go.ChangeShapes Go.WideShapes Go.ChangeAt Go.RowKit
open Go.ChangeMaps (open_string)

theorem termsMade_contract (H : Type) (enc : TypeId × Value → H) (W : World) (base : Nat) (args : Array Value) (ds gs : List (DataW H)) (before : List MemPlace)
    (hval : ∀ (j : Nat) t v, Tryd.f6.params[j]? = some t → args[j]? = some v → Value.okWide Tryd.prog W .any base t v)
    (hW : DataW.Whole enc Tryd.prog Tryd.f6.params.toList Rows.calendarTermsMadeSpec.vars false W args.toList ds gs before) (hT : Tab W) (hw0 : 0 < W.heap.size)
    (hsz : (DataW.weightsEach Tryd.prog (Tryd.f6.params.toList ++ (OpenSpec.ofChange Rows.calendarTermsMadeSpec).bare.plain.varTypes Tryd.prog) (ds ++ gs)).all (· ≤ reachBytes) = true) :
    Calls Tryd.prog 6 args W fun e W' => ∃ v, e = .returned v ∧ Rows.calendarTermsMadeSpec.post enc Tryd.prog Tryd.f6 false true false false W args v W' := by
  have hW' := hW
  obtain ⟨p, q, hA0, hV, rfl, hfz, hnd⟩ := hW
  have hA : DataW.TrodAll enc Tryd.prog W 0 (fun _ => true) true Tryd.f6.params.toList args.toList ds p := hA0
  rw [Tryd.params6] at hA hval hsz
  obtain ⟨v0, vs0, d0, ds0, p0, q0, hargs, rfl, rfl, h0, r0⟩ := trodAll_cons hA
  obtain ⟨rfl, rfl, rfl⟩ := trodAll_nil r0
  obtain rfl : args = #[v0] := by cases args; simp_all
  obtain ⟨rfl, rfl⟩ := trodVars_none hV
  obtain ⟨A, L, c, rfl, hI, hlen⟩ := open_intlist (hval 0 35 v0 rfl rfl) h0

  refine (termsMade_any A L c hlen W hT hw0 hI).mono fun e W' ⟨he, hbw⟩ => ?_
  subst he
  exact ⟨_, rfl, law_post laidOut (fun t ht => by rw [Tryd.params6] at ht; obtain rfl : t = 35 := (by simpa using ht); exact row35) rfl Tryd.underlying4 rfl rfl hW' hbw⟩

theorem termsMade_laid (os : Os) : laidMet Tryd.prog Rows.calendarTermsMadeRow.laid ((laidWorld os).forCall (fun _ _ => 0) ⟨#[], #[.slice none 0 0], []⟩).memory :=
  laidMet_of_run' 8 (by kernel_rfl) (by kernel_rfl)
theorem termsMade_reads (os : Os) {H : Type} (enc : TypeId × Value → H) : ∃ places, DataW.whole enc Tryd.prog ((laidWorld os).forCall (fun _ _ => 0) ⟨#[], #[.slice none 0 0], []⟩).memory Tryd.f6.params.toList Rows.calendarTermsMadeSpec.vars false #[Value.slice none 0 0].toList 8 = some ([.nil], [], places) :=
  ⟨[], by kernel_rfl⟩

theorem termsMade_lifted (os : Os) (started : os.Started) (H : Type) (enc : TypeId × Value → H) (F : Stop.Interp) :
    ReturnsInHanded {} Tryd.checked os 6 .any ((OpenSpec.ofChange Rows.calendarTermsMadeSpec).preRow enc Tryd.prog Tryd.f6 Rows.calendarTermsMadeRow.domain false Rows.calendarTermsMadeRow.laid) (((OpenSpec.ofChange Rows.calendarTermsMadeSpec).at F).post enc Tryd.prog Tryd.f6 false true false false) := by
  obtain ⟨places, hx⟩ := termsMade_reads os enc
  refine returnsInHanded_of_row (C := Tryd.checked) (s := OpenSpec.ofChange Rows.calendarTermsMadeSpec) own started (by kernel_rfl) Tryd.func6
    (witness_row_at (enc := enc) (C := Tryd.checked) false (laidWorld os) #[.slice none 0 0] rfl (by kernel_rfl) (by kernel_rfl) (by kernel_rfl)
      (OpenSpec.preRow_of_cond 8 hx (by kernel_rfl) (fun k hk => by cases hk) (by kernel_rfl) (termsMade_laid os))) ?_
  intro W base args ds gs before hval hW _ _ hsz hL hsh _
  exact termsMade_contract H enc W base args ds gs before hval hW (tab_of hL).1 (tab_of hL).2 hsz

theorem termsMade_said : Rows.CalendarTermsMadeSaid :=
  OpenClaim.holds_of_cond 6 Tryd.f6 rfl rfl rfl rfl rfl rfl rfl ⟨rfl, rfl, rfl, rfl, rfl⟩ rfl rfl rfl rfl rfl (by kernel_rfl) Tryd.func6 (by kernel_rfl)
    (of_decide_eq_true (by kernel_rfl)) (by unfold Func.isWrapper; first | (rw [if_pos (by decide +kernel)]; kernel_rfl) | (rw [if_neg (by decide +kernel)]; exact ⟨rfl, rfl⟩))
    (fun os started H enc _ F => by rw [OpenClaim.pre_eq_preRow]; exact termsMade_lifted os started H enc F)

theorem termsMade_plain (f : FuncId) (fn : Func) (hf : Tryd.pinned.checked.prog.funcNamed "timetable/timetablelaw04.CalendarTermsMade" = some f) (hfn : Tryd.pinned.checked.prog.funcs[f]? = some fn) :
    false = Tryd.pinned.checked.prog.looks [] ∧ ∀ (j : Nat) t, fn.params[j]? = some t → Tryd.pinned.checked.prog.wantsStandIn t = false := by
  obtain rfl : f = 6 := Option.some.inj ((show Tryd.prog.funcNamed "timetable/timetablelaw04.CalendarTermsMade" = some 6 by kernel_rfl).symm.trans hf) |>.symm
  obtain rfl : fn = Tryd.f6 := (Option.some.inj (Tryd.func6.symm.trans hfn)).symm
  refine ⟨by kernel_rfl, fun j t ht => ?_⟩
  rw [Tryd.params6] at ht
  have hm := Array.mem_of_getElem? ht
  obtain rfl : t = 35 := by simpa using hm
  exact (show Tryd.prog.wantsStandIn 35 = false by kernel_rfl)

/-- The card. -/
theorem termsMade_card : Rows.CalendarTermsMadeCardSaid :=
  Claim7.holds_tied_plain_at .later [] _ _ _ _ termsMade_said (fun _ h => by cases h) (by kernel_rfl) (fun _ h => by cases h) calendarTermsMade_row_tie rfl ⟨rfl, rfl⟩ (by kernel_rfl) rfl termsMade_plain (by kernel_rfl)
end Go.Proofs.YtkgindnlllhioaaDoor
