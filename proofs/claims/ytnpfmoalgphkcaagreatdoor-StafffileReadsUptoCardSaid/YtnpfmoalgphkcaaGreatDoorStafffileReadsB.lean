/-
  The program and the specification agree on Read of lecturers: the statement StafffileReads where what came in is of bulk at most 1048576. Conditions: those of the row.
-/
import Derived.Test.YtnpfmoalgphkcaaGreatDoorVA01
import Derived.Test.YtnpfmoalgphkcaaGreatDoorVA02
import Derived.Test.YtnpfmoalgphkcaaGreatDoorVA03
import Derived.Test.YtnpfmoalgphkcaaGreatDoorVA04
import Derived.Test.YtnpfmoalgphkcaaGreatDoorVA05
import Derived.Test.YtnpfmoalgphkcaaGreatDoorVA06
import Derived.Test.YtnpfmoalgphkcaaGreatDoorVA07
import Derived.Test.YtnpfmoalgphkcaaGreatDoorVA08
import Derived.Test.YtnpfmoalgphkcaaGreatDoorVA09
import Derived.Test.YtnpfmoalgphkcaaGreatDoorVA10
import Derived.Test.YtnpfmoalgphkcaaGreatDoorVA11
import Derived.Test.YtnpfmoalgphkcaaGreatDoorVA12
import Derived.Test.YtnpfmoalgphkcaaGreatDoorVA13
import Derived.Test.YtnpfmoalgphkcaaGreatDoorVA14
import Derived.Test.YtnpfmoalgphkcaaGreatDoorVA15
import Derived.Test.YtnpfmoalgphkcaaGreatDoorVA16
import Derived.Test.YtnpfmoalgphkcaaGreatDoorVA17
import Derived.Test.YtnpfmoalgphkcaaGreatDoorVA18
import Derived.Test.YtnpfmoalgphkcaaGreatDoorVA19
import Derived.Test.YtnpfmoalgphkcaaGreatDoorVA20
import Derived.Test.YtnpfmoalgphkcaaGreatDoorVA21
import Derived.Test.YtnpfmoalgphkcaaGreatDoorVA22
import Derived.Test.YtnpfmoalgphkcaaGreatDoorVA23
import Derived.Test.YtnpfmoalgphkcaaGreatDoorVA24
import Derived.Test.YtnpfmoalgphkcaaGreatDoorVA25
import Derived.Test.YtnpfmoalgphkcaaGreatDoorVA26
import Derived.Test.YtnpfmoalgphkcaaGreatDoorVA27
import Derived.Test.YtnpfmoalgphkcaaGreatDoorVA28
import Derived.Test.YtnpfmoalgphkcaaGreatDoorVA29
import Derived.Test.YtnpfmoalgphkcaaGreatDoorVA30
import Derived.Test.YtnpfmoalgphkcaaGreatDoorVA31
import Derived.Test.YtnpfmoalgphkcaaGreatDoorWA01
import Derived.Test.YtnpfmoalgphkcaaGreatDoorWA02
import Derived.Test.YtnpfmoalgphkcaaGreatDoorWA03
import Derived.Test.YtnpfmoalgphkcaaGreatDoorWB01
import Derived.Test.YtnpfmoalgphkcaaGreatDoorWB02
import Derived.Test.YtnpfmoalgphkcaaGreatDoorWB03
import Derived.Test.YtnpfmoalgphkcaaGreatDoorWB04
import Derived.Test.YtnpfmoalgphkcaaGreatDoorWB05
import Derived.Test.YtnpfmoalgphkcaaGreatDoorWB06
import Derived.Test.YtnpfmoalgphkcaaGreatDoorWB07
import Derived.Test.YtnpfmoalgphkcaaGreatDoorWB08
import Derived.Test.YtnpfmoalgphkcaaGreatDoorWB09
import Derived.Test.YtnpfmoalgphkcaaGreatDoorWB10
set_option linter.unusedVariables false
set_option maxRecDepth 100000
namespace Go.Proofs.YtnpfmoalgphkcaaGreatDoor
open Go Go.Proofs Go.ChangeShapes Go.WideShapes Go.ChangeAt Go.RowKit
open Go.ChangeMaps (open_string)

theorem lreadsc_contract (H : Type) (enc : TypeId × Value → H) (W : World) (base : Nat) (args : Array Value) (ds gs : List (DataW H)) (before : List MemPlace)
    (hval : ∀ (j : Nat) t v, Tryz.f4.params[j]? = some t → args[j]? = some v → Value.okWide Tryz.prog W .any base t v)
    (hW : DataW.Whole enc Tryz.prog Tryz.f4.params.toList Rows.stafffileReadsSpec.vars false W args.toList ds gs before) (hE : Env7 W) (hR : REnv7 W)
    (hk : Rows.uptoSmall H (ds ++ gs) = true) :
    Calls Tryz.prog 4 args W fun e W' => ∃ v, e = .returned v ∧ Rows.stafffileReadsSpec.post enc Tryz.prog Tryz.f4 false true false false W args v W' := by
  have hW' := hW
  obtain ⟨p, q, hA0, hV, rfl, hfz, hnd⟩ := hW
  have hA : DataW.TrodAll enc Tryz.prog W 0 (fun _ => true) true Tryz.f4.params.toList args.toList ds p := hA0
  rw [Tryz.params4] at hA hval
  obtain ⟨v0, vs0, d0, ds0, p0, q0, hargs, rfl, rfl, h0, r0⟩ := trodAll_cons hA
  obtain ⟨v1, vs1, d1, ds1, p1, q1, rfl, rfl, rfl, h1, r1⟩ := trodAll_cons r0
  obtain ⟨v2, vs2, d2, ds2, p2, q2, rfl, rfl, rfl, h2, r2⟩ := trodAll_cons r1
  obtain ⟨rfl, rfl, rfl⟩ := trodAll_nil r2
  obtain rfl : args = #[v0, v1, v2] := by cases args; simp_all
  obtain ⟨rfl, rfl⟩ := trodVars_none hV
  have hkb : Rows.uptoBulk d0 ≤ 1048576 := by
    have h := of_decide_eq_true hk
    simp only [List.cons_append, Rows.uptoBulkAll] at h
    omega
  obtain ⟨Ar, l, c, rfl, _, _, hI, hlen, htx⟩ := open_recs7 (hval 0 39 v0 rfl rfl) h0
  obtain ⟨g1, g2, g3, g4, rfl⟩ := open_grid7 (hval 1 24 v1 rfl rfl) h1
  obtain ⟨wk, rfl, rfl, rfl, _⟩ := open_int Tryz.underlying3 (hval 2 3 v2 rfl rfl) h2

  refine (S9.rreadsLaw_any g1 g2 g3 g4 wk Ar l c W hI (by omega) (fun r hr f hf => by have := htx r hr f hf; omega) hE hR (fun w' hb => S9.awake9_any w' (hE.below hb (Nat.le_refl _)))).mono fun e W' ⟨he, hbw⟩ => ?_
  subst he
  exact ⟨_, rfl, law_post laidOut (fun t ht => by rw [Tryz.params4] at ht; simp at ht; rcases ht with rfl | rfl | rfl; exact rowRecs; exact rowGrid; exact row3) rfl Tryz.underlying4 rfl rfl hW' hbw⟩

theorem lreadsc_laid (os : Os) : laidMet Tryz.prog Rows.stafffileReadsUptoRow.laid ((laidWorld os).forCall (fun _ _ => 0) ⟨#[], #[.slice none 0 0, .agg #[.int .i64 0, .int .i64 0, .int .i64 0, .int .i64 0], .int .i64 0], []⟩).memory :=
  laidMet_of_run' 8 (by kernel_rfl) (by kernel_rfl)
theorem lreadsc_reads (os : Os) {H : Type} (enc : TypeId × Value → H) : ∃ places, DataW.whole enc Tryz.prog ((laidWorld os).forCall (fun _ _ => 0) ⟨#[], #[.slice none 0 0, .agg #[.int .i64 0, .int .i64 0, .int .i64 0, .int .i64 0], .int .i64 0], []⟩).memory Tryz.f4.params.toList Rows.stafffileReadsSpec.vars false #[Value.slice none 0 0, Value.agg #[.int .i64 0, .int .i64 0, .int .i64 0, .int .i64 0], Value.int .i64 0].toList 8 = some ([.nil, .agg [.lit (.int .i64 0), .lit (.int .i64 0), .lit (.int .i64 0), .lit (.int .i64 0)], .lit (.int .i64 0)], [], places) :=
  ⟨[], by kernel_rfl⟩

theorem lreadsc_lifted (os : Os) (started : os.Started) (H : Type) (enc : TypeId × Value → H) (F : Stop.Interp) :
    ReturnsInHanded {} Tryz.checked os 4 .any ((Rows.OpenSpec.upto Rows.stafffileReadsSpec).preRow enc Tryz.prog Tryz.f4 Rows.stafffileReadsUptoRow.domain false Rows.stafffileReadsUptoRow.laid) (((Rows.OpenSpec.upto Rows.stafffileReadsSpec).at F).post enc Tryz.prog Tryz.f4 false true false false) := by
  obtain ⟨places, hx⟩ := lreadsc_reads os enc
  refine returnsInHanded_of_row (C := Tryz.checked) (s := Rows.OpenSpec.upto Rows.stafffileReadsSpec) own started (by kernel_rfl) Tryz.func4
    (witness_row_atRef (enc := enc) (C := Tryz.checked) false (laidWorld os) #[.slice none 0 0, .agg #[.int .i64 0, .int .i64 0, .int .i64 0, .int .i64 0], .int .i64 0] rfl (by kernel_rfl) (by kernel_rfl) (by kernel_rfl)
      (OpenSpec.preRow_of_cond 8 hx (by kernel_rfl) (fun k hk => by cases hk; kernel_rfl) (by kernel_rfl) (lreadsc_laid os))) ?_
  intro W base args ds gs before hval hW _ hcond _ hL hsh _
  exact lreadsc_contract H enc W base args ds gs before hval hW (env7_ofL hL hsh (.tail _ (.tail _ (.tail _ (.tail _ (.tail _ (.tail _ (.tail _ (.tail _ (.head _))))))))) (.tail _ (.tail _ (.tail _ (.tail _ (.tail _ (.tail _ (.tail _ (.tail _ (.tail _ (.head _)))))))))) (.tail _ (.tail _ (.head _))) (errSyntax_ofL hL.tail.tail.tail.tail.tail.tail.tail)) (renv7_ofL hL (.tail _ (.tail _ (.tail _ (.head _)))) (.tail _ (.tail _ (.tail _ (.tail _ (.head _))))) (errSyntax_ofL hL.tail.tail.tail.tail.tail.tail.tail)) (hcond _ rfl)

theorem lreadsc_said : Rows.StafffileReadsUptoSaid :=
  OpenClaim.holds_of_cond 4 Tryz.f4 rfl rfl rfl rfl rfl rfl rfl ⟨rfl, rfl, rfl, rfl, rfl⟩ rfl rfl rfl rfl rfl (by kernel_rfl) Tryz.func4 (by kernel_rfl)
    (of_decide_eq_true (by kernel_rfl)) (by unfold Func.isWrapper; first | (rw [if_pos (by decide +kernel)]; kernel_rfl) | (rw [if_neg (by decide +kernel)]; exact ⟨rfl, rfl⟩))
    (fun os started H enc _ F => by rw [OpenClaim.pre_eq_preRow]; exact lreadsc_lifted os started H enc F)

theorem lreadsc_plain (f : FuncId) (fn : Func) (hf : Tryz.pinned.checked.prog.funcNamed "timetable/timetablelaw09.StafffileReads" = some f) (hfn : Tryz.pinned.checked.prog.funcs[f]? = some fn) :
    true = Tryz.pinned.checked.prog.looks [] ∧ ∀ (j : Nat) t, fn.params[j]? = some t → Tryz.pinned.checked.prog.wantsStandIn t = false := by
  obtain rfl : f = 4 := Option.some.inj ((show Tryz.prog.funcNamed "timetable/timetablelaw09.StafffileReads" = some 4 by kernel_rfl).symm.trans hf) |>.symm
  obtain rfl : fn = Tryz.f4 := (Option.some.inj (Tryz.func4.symm.trans hfn)).symm
  refine ⟨by kernel_rfl, fun j t ht => ?_⟩
  rw [Tryz.params4] at ht
  have hm := Array.mem_of_getElem? ht
  simp at hm
  rcases hm with rfl | rfl | rfl
  · exact (show Tryz.prog.wantsStandIn 39 = false by kernel_rfl)
  · exact (show Tryz.prog.wantsStandIn 24 = false by kernel_rfl)
  · exact (show Tryz.prog.wantsStandIn 3 = false by kernel_rfl)

/-- The card. -/
theorem lreadsc_card : Rows.StafffileReadsUptoCardSaid :=
  Claim7.holds_tied_plain_at .later [] _ _ _ _ lreadsc_said (fun _ h => by cases h) (by kernel_rfl) (fun _ h => by cases h) stafffileReadsUpto_row_tie rfl ⟨rfl, rfl⟩ (by kernel_rfl) rfl lreadsc_plain (by kernel_rfl)
end Go.Proofs.YtnpfmoalgphkcaaGreatDoor
