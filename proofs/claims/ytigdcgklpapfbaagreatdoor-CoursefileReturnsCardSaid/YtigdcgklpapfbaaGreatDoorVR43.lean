/-
  Classes are read as they were written, and their times fit the grid: the statement CoursefileReturns, for every list of numbers. Conditions: those of the row.
-/
import Derived.Test.YtigdcgklpapfbaaGreatDoorVR41
import Derived.Test.YtigdcgklpapfbaaGreatDoorVR42
set_option linter.unusedVariables false
set_option maxRecDepth 100000
namespace Go.Proofs.YtigdcgklpapfbaaGreatDoor
open Go Go.Proofs Go.ChangeShapes Go.WideShapes Go.ChangeAt Go.RowKit
open Go.ChangeMaps (open_string)

theorem kreturns_contract (H : Type) (enc : TypeId × Value → H) (W : World) (base : Nat) (args : Array Value) (ds gs : List (DataW H)) (before : List MemPlace)
    (hval : ∀ (j : Nat) t v, Tryz.f6.params[j]? = some t → args[j]? = some v → Value.okWide Tryz.prog W .any base t v)
    (hW : DataW.Whole enc Tryz.prog Tryz.f6.params.toList Rows.coursefileReturnsSpec.vars false W args.toList ds gs before) (hE : Env7 W) (hP : S10.People W ∧ S10.Features W)
    (hsz : (DataW.weightsEach Tryz.prog (Tryz.f6.params.toList ++ (OpenSpec.ofChange Rows.coursefileReturnsSpec).bare.plain.varTypes Tryz.prog) (ds ++ gs)).all (· ≤ reachBytes) = true) :
    Calls Tryz.prog 6 args W fun e W' => ∃ v, e = .returned v ∧ Rows.coursefileReturnsSpec.post enc Tryz.prog Tryz.f6 false true false false W args v W' := by
  have hW' := hW
  obtain ⟨p, q, hA0, hV, rfl, hfz, hnd⟩ := hW
  have hA : DataW.TrodAll enc Tryz.prog W 0 (fun _ => true) true Tryz.f6.params.toList args.toList ds p := hA0
  rw [Tryz.params6] at hA hval hsz
  obtain ⟨v0, vs0, d0, ds0, p0, q0, hargs, rfl, rfl, h0, r0⟩ := trodAll_cons hA
  obtain ⟨rfl, rfl, rfl⟩ := trodAll_nil r0
  obtain rfl : args = #[v0] := by cases args; simp_all
  obtain ⟨rfl, rfl⟩ := trodVars_none hV
  obtain ⟨A, L, c, rfl, hI, hlen⟩ := open_intlist (hval 0 29 v0 rfl rfl) h0
  obtain ⟨⟨PB, po, pc, hp, hPB⟩, FB, fo, fc, hf, hFB⟩ := hP

  refine (S10.creturns_any A L c PB po pc FB fo fc hlen W hE hI hp hPB hf hFB).mono fun e W' ⟨he, hbw⟩ => ?_
  subst he
  exact ⟨_, rfl, law_post laidOut (fun t ht => by rw [Tryz.params6] at ht; obtain rfl : t = 29 := (by simpa using ht); exact rowInts) rfl Tryz.underlying4 rfl rfl hW' hbw⟩

theorem kreturns_laid (os : Os) : laidMet Tryz.prog Rows.coursefileReturnsRow.laid ((laidWorld os).forCall (fun _ _ => 0) ⟨#[], #[.slice none 0 0], []⟩).memory :=
  laidMet_of_run' 8 (by kernel_rfl) (by kernel_rfl)
theorem kreturns_reads (os : Os) {H : Type} (enc : TypeId × Value → H) : ∃ places, DataW.whole enc Tryz.prog ((laidWorld os).forCall (fun _ _ => 0) ⟨#[], #[.slice none 0 0], []⟩).memory Tryz.f6.params.toList Rows.coursefileReturnsSpec.vars false #[Value.slice none 0 0].toList 8 = some ([.nil], [], places) :=
  ⟨[], by kernel_rfl⟩

theorem kreturns_lifted (os : Os) (started : os.Started) (H : Type) (enc : TypeId × Value → H) (F : Stop.Interp) :
    ReturnsInHanded {} Tryz.checked os 6 .any ((OpenSpec.ofChange Rows.coursefileReturnsSpec).preRow enc Tryz.prog Tryz.f6 Rows.coursefileReturnsRow.domain false Rows.coursefileReturnsRow.laid) (((OpenSpec.ofChange Rows.coursefileReturnsSpec).at F).post enc Tryz.prog Tryz.f6 false true false false) := by
  obtain ⟨places, hx⟩ := kreturns_reads os enc
  refine returnsInHanded_of_row (C := Tryz.checked) (s := OpenSpec.ofChange Rows.coursefileReturnsSpec) own started (by kernel_rfl) Tryz.func6
    (witness_row_atRef (enc := enc) (C := Tryz.checked) false (laidWorld os) #[.slice none 0 0] rfl (by kernel_rfl) (by kernel_rfl) (by kernel_rfl)
      (OpenSpec.preRow_of_cond 8 hx (by kernel_rfl) (fun k hk => by cases hk) (by kernel_rfl) (kreturns_laid os))) ?_
  intro W base args ds gs before hval hW _ _ hsz hL hsh _
  exact kreturns_contract H enc W base args ds gs before hval hW (env7_ofL hL hsh (.tail _ (.tail _ (.tail _ (.tail _ (.tail _ (.tail _ (.tail _ (.tail _ (.head _))))))))) (.tail _ (.tail _ (.tail _ (.tail _ (.tail _ (.tail _ (.tail _ (.tail _ (.tail _ (.head _)))))))))) (.tail _ (.tail _ (.head _))) (errSyntax_ofL hL.tail.tail.tail.tail.tail.tail.tail)) ⟨S10.people_ofL hL (.tail _ (.tail _ (.tail _ (.tail _ (.head _))))), S10.features_ofL hL (.tail _ (.tail _ (.tail _ (.head _))))⟩ hsz

theorem kreturns_inPlace : Tryz.pinned.checked.prog.inPlace 6 = Rows.coursefileReturnsRow.inPlace := by kernel_rfl
theorem kreturns_unfollowed : Tryz.pinned.checked.prog.unfollowed 6 = Rows.coursefileReturnsRow.unfollowed := by kernel_rfl
theorem kreturns_recurses : Tryz.pinned.checked.prog.recurses 6 = Rows.coursefileReturnsRow.recurses := by kernel_rfl
theorem kreturns_named : Tryz.pinned.checked.prog.varsNamed 6 = Rows.coursefileReturnsRow.named := by kernel_rfl
set_option maxHeartbeats 4000000 in
theorem kreturns_closed : joinedFacts Tryz.pinned.checked.prog 6 Tryz.f6 (OpenSpec.ofChange Rows.coursefileReturnsSpec).bare Rows.coursefileReturnsRow = true := by
  unfold joinedFacts
  rw [kreturns_inPlace, kreturns_unfollowed, kreturns_recurses, kreturns_named]
  kernel_rfl
end Go.Proofs.YtigdcgklpapfbaaGreatDoor
