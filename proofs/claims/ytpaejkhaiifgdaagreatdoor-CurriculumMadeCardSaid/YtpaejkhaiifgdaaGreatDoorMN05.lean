/-
  The program and the specification agree on Valid, Write, Read and Pairs for made curricula, odd ones, and their records with a change: the statement CurriculumMade, for every list of numbers. Conditions: those of the row.
-/
import Derived.Test.YtpaejkhaiifgdaaGreatDoorGN01
import Derived.Test.YtpaejkhaiifgdaaGreatDoorGN02
import Derived.Test.YtpaejkhaiifgdaaGreatDoorGN03
import Derived.Test.YtpaejkhaiifgdaaGreatDoorGN04
import Derived.Test.YtpaejkhaiifgdaaGreatDoorGN05
import Derived.Test.YtpaejkhaiifgdaaGreatDoorGN06
import Derived.Test.YtpaejkhaiifgdaaGreatDoorGN07
import Derived.Test.YtpaejkhaiifgdaaGreatDoorGN08
import Derived.Test.YtpaejkhaiifgdaaGreatDoorGN09
import Derived.Test.YtpaejkhaiifgdaaGreatDoorGN10
import Derived.Test.YtpaejkhaiifgdaaGreatDoorGN11
import Derived.Test.YtpaejkhaiifgdaaGreatDoorGN12
import Derived.Test.YtpaejkhaiifgdaaGreatDoorGN13
import Derived.Test.YtpaejkhaiifgdaaGreatDoorGN14
import Derived.Test.YtpaejkhaiifgdaaGreatDoorGN15
import Derived.Test.YtpaejkhaiifgdaaGreatDoorGN16
import Derived.Test.YtpaejkhaiifgdaaGreatDoorGN17
import Derived.Test.YtpaejkhaiifgdaaGreatDoorGN18
import Derived.Test.YtpaejkhaiifgdaaGreatDoorEN01
import Derived.Test.YtpaejkhaiifgdaaGreatDoorEN02
import Derived.Test.YtpaejkhaiifgdaaGreatDoorEN03
import Derived.Test.YtpaejkhaiifgdaaGreatDoorEN04
import Derived.Test.YtpaejkhaiifgdaaGreatDoorEN05
import Derived.Test.YtpaejkhaiifgdaaGreatDoorEN06
import Derived.Test.YtpaejkhaiifgdaaGreatDoorEN07
import Derived.Test.YtpaejkhaiifgdaaGreatDoorEN08
import Derived.Test.YtpaejkhaiifgdaaGreatDoorEN09
import Derived.Test.YtpaejkhaiifgdaaGreatDoorMN01
import Derived.Test.YtpaejkhaiifgdaaGreatDoorMN02
import Derived.Test.YtpaejkhaiifgdaaGreatDoorMN03
import Derived.Test.YtpaejkhaiifgdaaGreatDoorMN04
import Derived.Test.YtpaejkhaiifgdaaGreatDoorCards
import Derived.Test.YtpaejkhaiifgdaaGreatDoorTie
import Derived.Lib.Bytealg
import Derived.Lib.ItoaNum
import Derived.Lib.Atoi
import Derived.Lib.SlTrimSet
import Derived.Test.YtpaejkhaiifgdaaGreatDoorProg
import Derived.WalkKit
import Derived.WalkSpells
import Derived.WalkLawsBesides
import Derived.Lib.Hide
import Derived.Deep.QuietTactic
import Derived.BigQuiet
import Derived.Laws.Rows
import Derived.OwnWalk
import Derived.Lib.BufferWrite
import Derived.Lib.UnsafeStr
import Derived.Laws.IdiomStrings
import Derived.Laws.BytesArg
import Derived.Laws.BytesString
import Derived.Shelf.Strings.Builder1
import Derived.Shelf.Strings.Builder2
import Derived.Shelf.Strings.OnBuilder
import Derived.Shelf.Strings.Trim
import Derived.Shelf.Small.Utf8
import Derived.Shelf.Small.Strs
import Derived.Shelf.Strings.BuilderF
import Derived.Shelf.Strings.BuilderK
import Derived.Shelf.Strings.Builder2Cap
import Derived.Shelf.Strconv.Atoi
import Derived.Shelf.Strconv.Itoa0
import Derived.Shelf.Strconv.Itoa1
import Derived.Shelf.LaysM
import Derived.Shelf.Strconv.Itoa2
import Derived.Shelf.Strconv.Itoa3
import Derived.Shelf.Strconv.AtoiErrFast
import Derived.Shelf.Strconv.ParseIntEmpty
import Derived.Shelf.Strconv.AtoiFail
import Derived.Shelf.Strconv.Clone
import Derived.Shelf.Strconv.SyntaxError
import Derived.Shelf.LaysC
import Derived.Shelf.Strconv.ToError
import Derived.Shelf.Strconv.AtoiErr
import Derived.Shelf.Strings.Search1
import Derived.Shelf.Strings.Search2
import Derived.Shelf.Strings.Search3
import Derived.Shelf.Strings.Cut
import Derived.Shelf.Strings.Shaped
import Derived.Shelf.Strings.Prefix
import Derived.Shelf.Strings.Runes
import Derived.Shelf.Strings.AsciiSet
import Derived.Shelf.Bits.Mul64
import Derived.Shelf.Strings.Repeat
import Derived.Shelf.Unicode.DecodeSlow
import Derived.Shelf.Strings.BuilderCap
import Derived.Shelf.Slices.Turned
import Derived.Shelf.Strings.SlTrimAscii
import Derived.Lib.AtoiErrMem
import Derived.Handy
import Derived.Laws.ResultCell
import Derived.RegionTactic
import Derived.Laws.OwnMore
import Derived.Lib.IndexLaws
import Derived.IntWalk
import Derived.Laws.AppendOwn
import Derived.Laws.BitsAllLaws
import Derived.Laws.BitsLemmas
import Derived.Deep.RegionLaw
import Derived.Deep.RegionHeld3
import Derived.OneCell
import Derived.Laws.Tables
import Derived.Laws.CopyOwn
import Derived.OrdersHeld
import Derived.Deep.DeepCutAuto
import Derived.Deep.CutBlock
import Derived.Lib.SmallJoins
import Derived.SizedLaws
import Derived.Stop.LaidErr
import Derived.Deep.DeepWitnessRowRef
import Derived.ProofKit
import Derived.OpenShut
import Derived.Deep.DeepHandedRow
import Derived.Deep.DeepLaidRun
import Derived.Deep.Slices
import Derived.Lib.LaidU8
import Derived.Shelf.Vars
import Derived.Lib.Repeat
import Derived.Maps.OwnSet
import Derived.Maps.Range
import Derived.Maps.AppendAt
import Derived.RangeFuncNested
import Derived.RangeFuncBound
import Derived.RangeFuncCalls
import Derived.RangeFuncLeaves
import Derived.Shelf.Abstract
import Derived.Shelf.RegionOpen
import Derived.OwnWalkIn
import Derived.Lib.SlicesS
import Derived.TacticsInMore
import Derived.LoopNIn
import Derived.LoopIn
import Derived.Deep.AppendLies
import Derived.StillTailTactics
import Derived.RangeFuncBox
import Derived.Lib.Join
import Derived.Laws.Concat
import Derived.Stop.BytesEq
import Derived.Lib.QuietBelow
import Derived.ArgAppend
import Derived.Deep.RegionLawGrows
import Derived.Deep.RegionWith
import Derived.Lib.MinMax
import Derived.Deep.WholeRow
import Derived.Laws.IdiomArrays
set_option linter.unusedVariables false
set_option maxRecDepth 100000
namespace Go.Proofs.YtpaejkhaiifgdaaGreatDoor
open Go Go.Proofs Go.Proofs.YtpaejkhaiifgdaaGreatDoor.S11 Go.ChangeShapes Go.WideShapes Go.ChangeAt Go.RowKit
open Go.ChangeMaps (open_string)

theorem umade_contract (H : Type) (enc : TypeId × Value → H) (W : World) (base : Nat) (args : Array Value) (ds gs : List (DataW H)) (before : List MemPlace)
    (hval : ∀ (j : Nat) t v, Tryz.f4.params[j]? = some t → args[j]? = some v → Value.okWide Tryz.prog W .any base t v)
    (hW : DataW.Whole enc Tryz.prog Tryz.f4.params.toList Rows.curriculumMadeSpec.vars false W args.toList ds gs before) (hE : S3.Env W) (hP : Features W)
    (hsz : (DataW.weightsEach Tryz.prog (Tryz.f4.params.toList ++ (OpenSpec.ofChange Rows.curriculumMadeSpec).bare.plain.varTypes Tryz.prog) (ds ++ gs)).all (· ≤ reachBytes) = true) :
    Calls Tryz.prog 4 args W fun e W' => ∃ v, e = .returned v ∧ Rows.curriculumMadeSpec.post enc Tryz.prog Tryz.f4 false true false false W args v W' := by
  have hW' := hW
  obtain ⟨p, q, hA0, hV, rfl, hfz, hnd⟩ := hW
  have hA : DataW.TrodAll enc Tryz.prog W 0 (fun _ => true) true Tryz.f4.params.toList args.toList ds p := hA0
  rw [Tryz.params4] at hA hval hsz
  obtain ⟨v0, vs0, d0, ds0, p0, q0, hargs, rfl, rfl, h0, r0⟩ := trodAll_cons hA
  obtain ⟨rfl, rfl, rfl⟩ := trodAll_nil r0
  obtain rfl : args = #[v0] := by cases args; simp_all
  obtain ⟨rfl, rfl⟩ := trodVars_none hV
  obtain ⟨A, L, c, rfl, hI, hlen⟩ := S11.open_intlist (hval 0 47 v0 rfl rfl) h0
  obtain ⟨FB, fo, fc, hf, hFB⟩ := hP

  refine (S11.made_any A L c FB fo fc hlen W hE hI hf hFB).mono fun e W' ⟨he, hbw⟩ => ?_
  subst he
  exact ⟨_, rfl, law_post laidOut (fun t ht => by rw [Tryz.params4] at ht; obtain rfl : t = 47 := (by simpa using ht); exact rowInts) rfl Tryz.underlying4 rfl rfl hW' hbw⟩

theorem umade_laid (os : Os) : laidMet Tryz.prog Rows.curriculumMadeRow.laid ((laidWorld os).forCall (fun _ _ => 0) ⟨#[], #[.slice none 0 0], []⟩).memory :=
  laidMet_of_run' 8 (by kernel_rfl) (by kernel_rfl)
theorem umade_reads (os : Os) {H : Type} (enc : TypeId × Value → H) : ∃ places, DataW.whole enc Tryz.prog ((laidWorld os).forCall (fun _ _ => 0) ⟨#[], #[.slice none 0 0], []⟩).memory Tryz.f4.params.toList Rows.curriculumMadeSpec.vars false #[Value.slice none 0 0].toList 8 = some ([.nil], [], places) :=
  ⟨[], by kernel_rfl⟩

theorem umade_lifted (os : Os) (started : os.Started) (H : Type) (enc : TypeId × Value → H) (F : Stop.Interp) :
    ReturnsInHanded {} Tryz.checked os 4 .any ((OpenSpec.ofChange Rows.curriculumMadeSpec).preRow enc Tryz.prog Tryz.f4 Rows.curriculumMadeRow.domain false Rows.curriculumMadeRow.laid) (((OpenSpec.ofChange Rows.curriculumMadeSpec).at F).post enc Tryz.prog Tryz.f4 false true false false) := by
  obtain ⟨places, hx⟩ := umade_reads os enc
  refine returnsInHanded_of_row (C := Tryz.checked) (s := OpenSpec.ofChange Rows.curriculumMadeSpec) own started (by kernel_rfl) Tryz.func4
    (witness_row_atRef (enc := enc) (C := Tryz.checked) false (laidWorld os) #[.slice none 0 0] rfl (by kernel_rfl) (by kernel_rfl) (by kernel_rfl)
      (OpenSpec.preRow_of_cond 8 hx (by kernel_rfl) (fun k hk => by cases hk) (by kernel_rfl) (umade_laid os))) ?_
  intro W base args ds gs before hval hW _ _ hsz hL hsh _
  exact umade_contract H enc W base args ds gs before hval hW (env3_ofL hL (.tail _ (.tail _ (.head _))) hsh (errSyntax_ofL hL.tail.tail.tail.tail.tail.tail)) (features_ofL hL (.tail _ (.tail _ (.tail _ (.head _))))) hsz

theorem umade_inPlace : Tryz.pinned.checked.prog.inPlace 4 = Rows.curriculumMadeRow.inPlace := by kernel_rfl
theorem umade_unfollowed : Tryz.pinned.checked.prog.unfollowed 4 = Rows.curriculumMadeRow.unfollowed := by kernel_rfl
theorem umade_recurses : Tryz.pinned.checked.prog.recurses 4 = Rows.curriculumMadeRow.recurses := by kernel_rfl
theorem umade_named : Tryz.pinned.checked.prog.varsNamed 4 = Rows.curriculumMadeRow.named := by kernel_rfl
set_option maxHeartbeats 4000000 in
theorem umade_closed : joinedFacts Tryz.pinned.checked.prog 4 Tryz.f4 (OpenSpec.ofChange Rows.curriculumMadeSpec).bare Rows.curriculumMadeRow = true := by
  unfold joinedFacts
  rw [umade_inPlace, umade_unfollowed, umade_recurses, umade_named]
  kernel_rfl
end Go.Proofs.YtpaejkhaiifgdaaGreatDoor

