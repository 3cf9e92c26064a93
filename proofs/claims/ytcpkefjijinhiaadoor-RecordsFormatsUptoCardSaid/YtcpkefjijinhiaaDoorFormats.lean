/-
  The program and the specification agree on Format, for any fields and dialect where what came in is of bulk at most 1048576, and for made ones: the statement RecordsFormats in its second form. Conditions: those of the row.
-/
import Derived.Test.YtcpkefjijinhiaaDoorLaw
import Derived.Test.YtcpkefjijinhiaaDoorOpenI
import Derived.Test.YtcpkefjijinhiaaDoorOpenR
import Derived.Test.YtcpkefjijinhiaaDoorFormatsWalk
set_option linter.unusedVariables false
set_option maxRecDepth 100000
namespace Go.Proofs.YtcpkefjijinhiaaDoor
open Go Go.Proofs Go.ChangeShapes Go.WideShapes Go.ChangeAt Go.RowKit

theorem formats_contract (H : Type) (enc : TypeId × Value → H) (W : World) (base : Nat) (args : Array Value) (ds gs : List (DataW H)) (before : List MemPlace)
    (hval : ∀ (j : Nat) t v, Tryd.f5.params[j]? = some t → args[j]? = some v → Value.okWide Tryd.prog W .any base t v)
    (hW : DataW.Whole enc Tryd.prog Tryd.f5.params.toList Rows.recordsFormatsSpec.vars false W args.toList ds gs before) (mx : Int) (hm : W.cell? ⟨0, 0, none⟩ = some (.int .i64 mx)) (hw0 : 0 < W.heap.size)
    (hk : Rows.uptoSmall H (ds ++ gs) = true) :
    Calls Tryd.prog 5 args W fun e W' => ∃ v, e = .returned v ∧ Rows.recordsFormatsSpec.post enc Tryd.prog Tryd.f5 false true false false W args v W' := by
  have hW' := hW
  obtain ⟨p, q, hA0, hV, rfl, hfz, hnd⟩ := hW
  have hA : DataW.TrodAll enc Tryd.prog W 0 (fun _ => true) true Tryd.f5.params.toList args.toList ds p := hA0
  rw [Tryd.params5] at hA hval
  obtain ⟨v0, vs0, d0, ds0, p0, q0, hargs, rfl, rfl, h0, r0⟩ := trodAll_cons hA
  obtain ⟨v1, vs1, d1, ds1, p1, q1, rfl, rfl, rfl, h1, r1⟩ := trodAll_cons r0
  obtain ⟨v2, vs2, d2, ds2, p2, q2, rfl, rfl, rfl, h2, r2⟩ := trodAll_cons r1
  obtain ⟨rfl, rfl, rfl⟩ := trodAll_nil r2
  obtain rfl : args = #[v0, v1, v2] := by cases args; simp_all
  obtain ⟨rfl, rfl⟩ := trodVars_none hV
  have hkb : Rows.uptoBulk d0 ≤ 1048576 := by
    have h := of_decide_eq_true hk
    simp only [List.cons_append, Rows.uptoBulkAll] at h
    omega
  obtain ⟨A, ls, c, rfl, hR, hlen, hwg, htx⟩ := W2.open_rows2 (hval 0 37 v0 rfl rfl) h0
  obtain ⟨c0, c1, y0, y1, fm, rfl, rfl, rfl, hy0, hy1⟩ := Joins.open_agg2 Tryd.underlying23 (by kernel_rfl) cells23 (hval 1 23 v1 rfl rfl) h1
  obtain ⟨a, e0, rfl, wa⟩ := DataW.trod_int Tryd.underlying5 hy0
  obtain ⟨b, e1, rfl, wb⟩ := DataW.trod_int Tryd.underlying5 hy1
  simp at e0 e1
  subst e0 e1
  obtain ⟨D, rfl⟩ := u8_of wa
  obtain ⟨Q, rfl⟩ := u8_of wb
  obtain ⟨AI, L, ci, rfl, hI⟩ := open_intlist (hval 2 28 v2 rfl rfl) h2

  refine (W2.formats_any mx A ls c D Q AI L ci W hR (by omega) (fun l hl s hs => by have := htx l hl s hs; omega) (by omega) hI hm hw0).mono fun e W' ⟨he, hbw⟩ => ?_
  subst he
  exact ⟨_, rfl, law_post laidOut (fun t ht => by rw [Tryd.params5] at ht; simp at ht; rcases ht with rfl | rfl | rfl; exact row37; exact row23; exact row28) rfl Tryd.underlying4 rfl rfl hW' hbw⟩

theorem formats_laid (os : Os) : laidMet Tryd.prog Rows.recordsFormatsUptoRow.laid ((laidWorld os).forCall (fun _ _ => 0) ⟨#[], #[.slice none 0 0, .agg #[.int .u8 0, .int .u8 0], .slice none 0 0], []⟩).memory :=
  laidMet_of_run' 8 (by kernel_rfl) (by kernel_rfl)
theorem formats_reads (os : Os) {H : Type} (enc : TypeId × Value → H) : ∃ places, DataW.whole enc Tryd.prog ((laidWorld os).forCall (fun _ _ => 0) ⟨#[], #[.slice none 0 0, .agg #[.int .u8 0, .int .u8 0], .slice none 0 0], []⟩).memory Tryd.f5.params.toList Rows.recordsFormatsSpec.vars false #[Value.slice none 0 0, Value.agg #[.int .u8 0, .int .u8 0], Value.slice none 0 0].toList 8 = some ([.nil, .agg [.lit (.int .u8 0), .lit (.int .u8 0)], .nil], [], places) :=
  ⟨[], by kernel_rfl⟩

theorem formats_lifted (os : Os) (started : os.Started) (H : Type) (enc : TypeId × Value → H) (F : Stop.Interp) :
    ReturnsInHanded {} Tryd.checked os 5 .any ((Rows.OpenSpec.upto Rows.recordsFormatsSpec).preRow enc Tryd.prog Tryd.f5 Rows.recordsFormatsUptoRow.domain false Rows.recordsFormatsUptoRow.laid) (((Rows.OpenSpec.upto Rows.recordsFormatsSpec).at F).post enc Tryd.prog Tryd.f5 false true false false) := by
  obtain ⟨places, hx⟩ := formats_reads os enc
  refine returnsInHanded_of_row (C := Tryd.checked) (s := Rows.OpenSpec.upto Rows.recordsFormatsSpec) own started (by kernel_rfl) Tryd.func5
    (witness_row_at (enc := enc) (C := Tryd.checked) false (laidWorld os) #[.slice none 0 0, .agg #[.int .u8 0, .int .u8 0], .slice none 0 0] rfl (by kernel_rfl) (by kernel_rfl) (by kernel_rfl)
      (OpenSpec.preRow_of_cond 8 hx (by kernel_rfl) (fun k hk => by cases hk; kernel_rfl) (by kernel_rfl) (formats_laid os))) ?_
  intro W base args ds gs before hval hW _ hcond _ hL hsh _
  obtain ⟨mx, hm⟩ := maxLen_of hsh
  exact formats_contract H enc W base args ds gs before hval hW mx hm (World.block_lt_of_cell? W _ hm) (hcond _ rfl)

theorem formats_said : Rows.RecordsFormatsUptoSaid :=
  OpenClaim.holds_of_cond 5 Tryd.f5 rfl rfl rfl rfl rfl rfl rfl ⟨rfl, rfl, rfl, rfl, rfl⟩ rfl rfl rfl rfl rfl (by kernel_rfl) Tryd.func5 (by kernel_rfl)
    (of_decide_eq_true (by kernel_rfl)) (by unfold Func.isWrapper; first | (rw [if_pos (by decide +kernel)]; kernel_rfl) | (rw [if_neg (by decide +kernel)]; exact ⟨rfl, rfl⟩))
    (fun os started H enc _ F => by rw [OpenClaim.pre_eq_preRow]; exact formats_lifted os started H enc F)

theorem formats_plain (f : FuncId) (fn : Func) (hf : Tryd.pinned.checked.prog.funcNamed "timetable/timetablelaw02.RecordsFormats" = some f) (hfn : Tryd.pinned.checked.prog.funcs[f]? = some fn) :
    false = Tryd.pinned.checked.prog.looks [] ∧ ∀ (j : Nat) t, fn.params[j]? = some t → Tryd.pinned.checked.prog.wantsStandIn t = false := by
  obtain rfl : f = 5 := Option.some.inj ((show Tryd.prog.funcNamed "timetable/timetablelaw02.RecordsFormats" = some 5 by kernel_rfl).symm.trans hf) |>.symm
  obtain rfl : fn = Tryd.f5 := (Option.some.inj (Tryd.func5.symm.trans hfn)).symm
  refine ⟨by kernel_rfl, fun j t ht => ?_⟩
  rw [Tryd.params5] at ht
  have hm := Array.mem_of_getElem? ht
  simp at hm
  rcases hm with rfl | rfl | rfl
  · exact (show Tryd.prog.wantsStandIn 37 = false by kernel_rfl)
  · exact (show Tryd.prog.wantsStandIn 23 = false by kernel_rfl)
  · exact (show Tryd.prog.wantsStandIn 28 = false by kernel_rfl)

/-- The card. -/
theorem formats_card : Rows.RecordsFormatsUptoCardSaid :=
  Claim7.holds_tied_plain_at .later [] _ _ _ _ formats_said (fun _ h => by cases h) (by kernel_rfl) (fun _ h => by cases h) recordsFormatsUpto_row_tie rfl ⟨rfl, rfl⟩ (by kernel_rfl) rfl formats_plain (by kernel_rfl)
end Go.Proofs.YtcpkefjijinhiaaDoor
