/-
  The program and the specification agree on Valid, Write, Read, Students and Wanted: the statement RequestsExact where what came in is of bulk at most 1048576. Conditions: those of the row.
-/
import Derived.Test.YtlgmanbilaminaaGreatDoorXN01
import Derived.Test.YtlgmanbilaminaaGreatDoorXN02
import Derived.Test.YtlgmanbilaminaaGreatDoorXN03
import Derived.Test.YtlgmanbilaminaaGreatDoorXN04
import Derived.Test.YtlgmanbilaminaaGreatDoorXN05
import Derived.Test.YtlgmanbilaminaaGreatDoorXN06
import Derived.Test.YtlgmanbilaminaaGreatDoorXN07
import Derived.Test.YtlgmanbilaminaaGreatDoorXN08
import Derived.Test.YtlgmanbilaminaaGreatDoorXN09
import Derived.Test.YtlgmanbilaminaaGreatDoorXN10
import Derived.Test.YtlgmanbilaminaaGreatDoorXN11
import Derived.Test.YtlgmanbilaminaaGreatDoorXN12
import Derived.Test.YtlgmanbilaminaaGreatDoorXN13
import Derived.Test.YtlgmanbilaminaaGreatDoorXN14
import Derived.Test.YtlgmanbilaminaaGreatDoorXN15
import Derived.Test.YtlgmanbilaminaaGreatDoorXN16
import Derived.Test.YtlgmanbilaminaaGreatDoorXN17
import Derived.Test.YtlgmanbilaminaaGreatDoorXN18
import Derived.Test.YtlgmanbilaminaaGreatDoorXN19
import Derived.Test.YtlgmanbilaminaaGreatDoorXN20
import Derived.Test.YtlgmanbilaminaaGreatDoorXN21
import Derived.Test.YtlgmanbilaminaaGreatDoorXN22
import Derived.Test.YtlgmanbilaminaaGreatDoorXN23
import Derived.Test.YtlgmanbilaminaaGreatDoorXN24
import Derived.Test.YtlgmanbilaminaaGreatDoorXN25
import Derived.Test.YtlgmanbilaminaaGreatDoorXN26
import Derived.Test.YtlgmanbilaminaaGreatDoorXN27
import Derived.Test.YtlgmanbilaminaaGreatDoorXN28
import Derived.Test.YtlgmanbilaminaaGreatDoorXN29
import Derived.Test.YtlgmanbilaminaaGreatDoorXN30
import Derived.Test.YtlgmanbilaminaaGreatDoorXN31
import Derived.Test.YtlgmanbilaminaaGreatDoorXN32
import Derived.Test.YtlgmanbilaminaaGreatDoorXN33
import Derived.Test.YtlgmanbilaminaaGreatDoorXN34
import Derived.Test.YtlgmanbilaminaaGreatDoorXN35
import Derived.Test.YtlgmanbilaminaaGreatDoorXN36
import Derived.Test.YtlgmanbilaminaaGreatDoorCards
import Derived.Test.YtlgmanbilaminaaGreatDoorTie
import Derived.Lib.Bytealg
import Derived.Lib.ItoaNum
import Derived.Lib.Atoi
import Derived.Lib.SlTrimSet
import Derived.Test.YtlgmanbilaminaaGreatDoorProg
import Derived.WalkKit
import Derived.WalkSpells
import Derived.WalkLawsBesides
import Derived.Lib.Hide
import Derived.Deep.QuietTactic
import Derived.BigQuiet
import Derived.Laws.Rows
import Derived.OwnWalk
import Derived.Lib.BufferWrite
import Derived.Lib.UnsafeStr
import Derived.Laws.IdiomStrings
import Derived.Laws.BytesArg
import Derived.Laws.BytesString
import Derived.Shelf.Strings.Builder1
import Derived.Shelf.Strings.Builder2
import Derived.Shelf.Strings.OnBuilder
import Derived.Shelf.Strings.Trim
import Derived.Shelf.Small.Utf8
import Derived.Shelf.Small.Bits
import Derived.Shelf.Small.Strs
import Derived.Shelf.Small.Wraps
import Derived.Shelf.Strings.BuilderF
import Derived.Shelf.Strings.BuilderK
import Derived.Shelf.Strings.Builder2Cap
import Derived.Shelf.Strconv.Atoi
import Derived.Shelf.Strconv.Itoa0
import Derived.Shelf.Strconv.Itoa1
import Derived.Shelf.LaysM
import Derived.Shelf.Strconv.Itoa2
import Derived.Shelf.Strconv.Itoa3
import Derived.Shelf.Strconv.AtoiErrFast
import Derived.Shelf.Strconv.ParseIntEmpty
import Derived.Shelf.Strconv.AtoiFail
import Derived.Shelf.Strconv.Clone
import Derived.Shelf.Strconv.SyntaxError
import Derived.Shelf.LaysC
import Derived.Shelf.Strconv.ToError
import Derived.Shelf.Strconv.AtoiErr
import Derived.Shelf.Strings.Search1
import Derived.Shelf.Strings.Search2
import Derived.Shelf.Strings.Search3
import Derived.Shelf.Strings.Cut
import Derived.Shelf.Strings.Shaped
import Derived.Shelf.Strings.Prefix
import Derived.Shelf.Strings.Runes
import Derived.Shelf.Strings.AsciiSet
import Derived.Shelf.Bits.Mul64
import Derived.Shelf.Strings.Repeat
import Derived.Shelf.Unicode.DecodeSlow
import Derived.Shelf.Strings.BuilderCap
import Derived.Shelf.Slices.Turned
import Derived.Ground.Names2Prog
import Derived.Shelf.Slices.Clone
import Derived.Ground.SlsfProg
import Derived.Shelf.SlSortCmp.Insertion
import Derived.Shelf.SlSortCmp.SiftDown1
import Derived.Shelf.SlSortCmp.HeapSort1
import Derived.Shelf.SlSortCmp.Insertion1
import Derived.Shelf.SlSortCmp.Median1
import Derived.Shelf.SlSortCmp.Pivot1
import Derived.Shelf.SlSortCmp.ReverseRange1
import Derived.Shelf.SlSortCmp.PartialInsertion1
import Derived.Shelf.SlSortCmp.PartitionEqual1
import Derived.Shelf.SlSortCmp.Partition1
import Derived.Shelf.SlSortCmp.Pdq1
import Derived.Shelf.SlSortCmp.Whole1
import Derived.Shelf.SlSortCmp.NoneTotal
import Derived.Shelf.Strings.SlTrimAscii
import Derived.Lib.AtoiErrMem
import Derived.Handy
import Derived.Laws.ResultCell
import Derived.RegionTactic
import Derived.Laws.OwnMore
import Derived.Lib.IndexLaws
import Derived.IntWalk
import Derived.Laws.AppendOwn
import Derived.Laws.BitsAllLaws
import Derived.Laws.BitsLemmas
import Derived.Deep.RegionLaw
import Derived.Deep.RegionHeld3
import Derived.OneCell
import Derived.Laws.Tables
import Derived.Laws.CopyOwn
import Derived.OrdersHeld
import Derived.Deep.DeepCutAuto
import Derived.Deep.CutBlock
import Derived.Lib.SmallJoins
import Derived.SizedLaws
import Derived.Stop.LaidErr
import Derived.Deep.DeepWitnessRowRef
import Derived.ProofKit
import Derived.OpenShut
import Derived.Deep.DeepHandedRow
import Derived.Deep.DeepLaidRun
import Derived.Deep.Slices
import Derived.Lib.LaidU8
import Derived.Shelf.Vars
import Derived.RangeFuncNested
import Derived.RangeFuncBound
import Derived.RangeFuncCalls
import Derived.RangeFuncLeaves
import Derived.Shelf.Abstract
import Derived.Shelf.RegionOpen
import Derived.OwnWalkIn
import Derived.Lib.Repeat
import Derived.Lib.SlicesS
import Derived.TacticsInMore
import Derived.LoopNIn
import Derived.LoopIn
import Derived.Deep.MidRow
import Derived.Lib.Join
import Derived.Laws.Concat
import Derived.Maps.OwnSet
import Derived.Maps.Range
import Derived.Maps.AppendAt
import Derived.StillTailTactics
import Derived.DeepKeys4
import Derived.Maps.OwnOps
import Derived.Maps.Ext
import Derived.Lib.QuietBelow
import Derived.Shelf.SlGeneric
import Derived.Maps.RangeWalk
import Derived.Sort.KeysCollected
import Derived.Sort.OwnSorted
import Derived.Sort.WalkA
import Derived.Sort.LotA
import Derived.Sort.Walk0
import Derived.Deep.RegionLawGrows
import Derived.Deep.AppendLies
import Derived.RangeFuncBox
import Derived.Lib.AppendZerosOnto
import Derived.Lib.SliceRun
import Derived.Deep.LoopGhost
import Derived.Lib.AppendIntMem
import Derived.Shelf.SlSortCmp.KitK
import Derived.Test.YtlgmanbilaminaaGreatDoorRows
set_option linter.unusedVariables false
set_option maxRecDepth 100000
namespace Go.Proofs.YtlgmanbilaminaaGreatDoor
open Go Go.Proofs Go.Proofs.YtlgmanbilaminaaGreatDoor.S12 Go.ChangeShapes Go.WideShapes Go.ChangeAt Go.RowKit
open Go.ChangeMaps (open_string)
theorem qexact_contract (H : Type) (enc : TypeId × Value → H) (W : World) (base : Nat) (args : Array Value) (ds gs : List (DataW H)) (before : List MemPlace)
    (hval : ∀ (j : Nat) t v, Tryz.f3.params[j]? = some t → args[j]? = some v → Value.okWide Tryz.prog W .any base t v)
    (hW : DataW.Whole enc Tryz.prog Tryz.f3.params.toList Rows.requestsExactSpec.vars false W args.toList ds gs before) (hE : S3.Env W)
    (hk : Rows.uptoSmall H (ds ++ gs) = true) :
    Calls Tryz.prog 3 args W fun e W' => ∃ v, e = .returned v ∧ Rows.requestsExactSpec.post enc Tryz.prog Tryz.f3 false true false false W args v W' := by
  have hW' := hW
  obtain ⟨p, q, hA0, hV, rfl, hfz, hnd⟩ := hW
  have hA : DataW.TrodAll enc Tryz.prog W 0 (fun _ => true) true Tryz.f3.params.toList args.toList ds p := hA0
  rw [Tryz.params3] at hA hval
  obtain ⟨v0, vs0, d0, ds0, p0, q0, hargs, rfl, rfl, h0, r0⟩ := trodAll_cons hA
  obtain ⟨v1, vs1, d1, ds1, p1, q1, rfl, rfl, rfl, h1, r1⟩ := trodAll_cons r0
  obtain ⟨v2, vs2, d2, ds2, p2, q2, rfl, rfl, rfl, h2, r2⟩ := trodAll_cons r1
  obtain ⟨rfl, rfl, rfl⟩ := trodAll_nil r2
  obtain rfl : args = #[v0, v1, v2] := by cases args; simp_all
  obtain ⟨rfl, rfl⟩ := trodVars_none hV
  have hkb : Rows.uptoBulk d0 ≤ 1048576 ∧ Rows.uptoBulk d1 ≤ 1048576 := by
    have h := of_decide_eq_true hk
    simp only [List.cons_append, Rows.uptoBulkAll] at h
    omega
  obtain ⟨A, l, c, rfl, hlc, hcm, hI, hlb, hlr⟩ := S12.open_reqs (hval 0 22 v0 rfl rfl) h0
  obtain ⟨Ax, x, cx, rfl, _, _, hX, hlen, htx⟩ := open_recs7 (hval 1 23 v1 rfl rfl) h1
  obtain ⟨m, rfl, rfl, rfl, _⟩ := open_string Tryz.underlying9 (hval 2 9 v2 rfl rfl) h2
  have hw : (wantF l (lst m)).length ≤ l.length := List.length_filter_le _ _
  refine (S12.exact_any A l c Ax x cx m W hE hI (by omega) (fun r hr => by have := (hlr r hr).1; unfold maxLen at this; omega) (fun r hr => by have := (hlr r hr).2; omega) (S12.said_all (by omega)) hX (by omega) (fun r hr f hf => by have := htx r hr f hf; omega)).mono fun e W' ⟨he, hbw⟩ => ?_
  subst he
  exact ⟨_, rfl, law_post laidOut (fun t ht => by rw [Tryz.params3] at ht; simp at ht; rcases ht with rfl | rfl | rfl; exact rowReqs; exact rowRecs; exact row9) rfl Tryz.underlying4 rfl rfl hW' hbw⟩
theorem qexact_laid (os : Os) : laidMet Tryz.prog Rows.requestsExactUptoRow.laid ((laidWorld os).forCall (fun _ _ => 0) ⟨#[], #[.slice none 0 0, .slice none 0 0, .string ⟨#[]⟩], []⟩).memory :=
  laidMet_of_run' 8 (by kernel_rfl) (by kernel_rfl)
theorem qexact_reads (os : Os) {H : Type} (enc : TypeId × Value → H) : ∃ places, DataW.whole enc Tryz.prog ((laidWorld os).forCall (fun _ _ => 0) ⟨#[], #[.slice none 0 0, .slice none 0 0, .string ⟨#[]⟩], []⟩).memory Tryz.f3.params.toList Rows.requestsExactSpec.vars false #[Value.slice none 0 0, Value.slice none 0 0, Value.string ⟨#[]⟩].toList 8 = some ([.nil, .nil, .lit (.string [])], [], places) :=
  ⟨[], by kernel_rfl⟩
theorem qexact_lifted (os : Os) (started : os.Started) (H : Type) (enc : TypeId × Value → H) (F : Stop.Interp) :
    ReturnsInHanded {} Tryz.checked os 3 .any ((Rows.OpenSpec.upto Rows.requestsExactSpec).preRow enc Tryz.prog Tryz.f3 Rows.requestsExactUptoRow.domain false Rows.requestsExactUptoRow.laid) (((Rows.OpenSpec.upto Rows.requestsExactSpec).at F).post enc Tryz.prog Tryz.f3 false true false false) := by
  obtain ⟨places, hx⟩ := qexact_reads os enc
  refine returnsInHanded_of_row (C := Tryz.checked) (s := Rows.OpenSpec.upto Rows.requestsExactSpec) own started (by kernel_rfl) Tryz.func3
    (witness_row_atRef (enc := enc) (C := Tryz.checked) false (laidWorld os) #[.slice none 0 0, .slice none 0 0, .string ⟨#[]⟩] rfl (by kernel_rfl) (by kernel_rfl) (by kernel_rfl)
      (OpenSpec.preRow_of_cond 8 hx (by kernel_rfl) (fun k hk => by cases hk; kernel_rfl) (by kernel_rfl) (qexact_laid os))) ?_
  intro W base args ds gs before hval hW _ hcond _ hL hsh _
  exact qexact_contract H enc W base args ds gs before hval hW (env3_ofL hL (.tail _ (.tail _ (.head _))) hsh (errSyntax_ofL hL.tail.tail.tail.tail.tail)) (hcond _ rfl)
theorem qexact_inPlace : Tryz.pinned.checked.prog.inPlace 3 = Rows.requestsExactUptoRow.inPlace := by kernel_rfl
theorem qexact_unfollowed : Tryz.pinned.checked.prog.unfollowed 3 = Rows.requestsExactUptoRow.unfollowed := by kernel_rfl
theorem qexact_recurses : Tryz.pinned.checked.prog.recurses 3 = Rows.requestsExactUptoRow.recurses := by kernel_rfl
theorem qexact_named : Tryz.pinned.checked.prog.varsNamed 3 = Rows.requestsExactUptoRow.named := by kernel_rfl
set_option maxHeartbeats 4000000 in
theorem qexact_closed : joinedFacts Tryz.pinned.checked.prog 3 Tryz.f3 (Rows.OpenSpec.upto Rows.requestsExactSpec).bare Rows.requestsExactUptoRow = true := by
  unfold joinedFacts
  rw [qexact_inPlace, qexact_unfollowed, qexact_recurses, qexact_named]
  kernel_rfl
end Go.Proofs.YtlgmanbilaminaaGreatDoor
