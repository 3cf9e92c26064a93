/-
  A slice of integers that came in: what they hold. Conditions: as the lemmas state.
  The table of people, as its text lays it. Condition: the variable is listed.
-/
import Derived.Test.YtnpfmoalgphkcaaGreatDoorMM01
import Derived.Test.YtnpfmoalgphkcaaGreatDoorMM02
import Derived.Test.YtnpfmoalgphkcaaGreatDoorMM03
import Derived.Test.YtnpfmoalgphkcaaGreatDoorMM04
import Derived.Test.YtnpfmoalgphkcaaGreatDoorMM05
import Derived.Test.YtnpfmoalgphkcaaGreatDoorMM06
import Derived.Test.YtnpfmoalgphkcaaGreatDoorMM07
import Derived.Test.YtnpfmoalgphkcaaGreatDoorMM08
import Derived.Test.YtnpfmoalgphkcaaGreatDoorMM09
import Derived.Test.YtnpfmoalgphkcaaGreatDoorMM10
import Derived.Test.YtnpfmoalgphkcaaGreatDoorMM11
import Derived.Test.YtnpfmoalgphkcaaGreatDoorMM12
import Derived.Test.YtnpfmoalgphkcaaGreatDoorMM13
import Derived.Test.YtnpfmoalgphkcaaGreatDoorMM16
import Derived.Test.YtnpfmoalgphkcaaGreatDoorMM17
import Derived.Test.YtnpfmoalgphkcaaGreatDoorMM18
import Derived.Test.YtnpfmoalgphkcaaGreatDoorCards
import Derived.Test.YtnpfmoalgphkcaaGreatDoorTie
import Derived.Test.YtnpfmoalgphkcaaGreatDoorProg
import Derived.WalkKit
import Derived.WalkSpells
import Derived.WalkLawsBesides
import Derived.Lib.Hide
import Derived.Deep.QuietTactic
import Derived.BigQuiet
import Derived.Laws.Rows
import Derived.OwnWalk
import Derived.Lib.BufferWrite
import Derived.Lib.UnsafeStr
import Derived.Laws.IdiomStrings
import Derived.Laws.BytesArg
import Derived.Laws.BytesString
import Derived.Laws.OwnMore
import Derived.Lib.IndexLaws
import Derived.Lib.ItoaNum
import Derived.Lib.Atoi
import Derived.Laws.BitsAllLaws
import Derived.Laws.BitsLemmas
import Derived.Deep.MidRow
import Derived.Shelf.Strings.Builder1
import Derived.Shelf.Strings.Builder2
import Derived.Shelf.Strings.OnBuilder
import Derived.Shelf.Strings.BuilderF
import Derived.Shelf.Strings.BuilderK
import Derived.Shelf.Strings.Builder2Cap
import Derived.Shelf.Strconv.Atoi
import Derived.Shelf.Strconv.Itoa0
import Derived.Shelf.Strconv.Itoa1
import Derived.Shelf.LaysM
import Derived.Shelf.Strconv.Itoa2
import Derived.Shelf.Strconv.Itoa3
import Derived.Shelf.Strconv.AtoiErrFast
import Derived.Shelf.Strconv.ParseIntEmpty
import Derived.Shelf.Strconv.AtoiFail
import Derived.Shelf.Strconv.Clone
import Derived.Shelf.Strconv.SyntaxError
import Derived.Shelf.LaysC
import Derived.Shelf.Strconv.ToError
import Derived.Shelf.Strconv.AtoiErr
import Derived.Shelf.Strings.Search1
import Derived.Shelf.Strings.Search2
import Derived.Shelf.Strings.Search3
import Derived.Shelf.Strings.Cut
import Derived.Shelf.Strings.Shaped
import Derived.Shelf.Strings.Prefix
import Derived.Shelf.Unicode.DecodeSlow
import Derived.Shelf.Strings.BuilderCap
import Derived.Lib.AtoiErrMem
import Derived.Handy
import Derived.RangeFuncNested
import Derived.RangeFuncBound
import Derived.RangeFuncCalls
import Derived.RangeFuncLeaves
import Derived.Shelf.Abstract
import Derived.Shelf.RegionOpen
import Derived.OwnWalkIn
import Derived.TacticsInMore
import Derived.LoopNIn
import Derived.LoopIn
import Derived.Laws.ResultCell
import Derived.Deep.RegionLaw
import Derived.Deep.RegionHeld3
import Derived.Lib.Bytealg
import Derived.Lib.SlTrimSet
import Derived.Shelf.Strings.SlTrimAscii
import Derived.RegionTactic
import Derived.Lib.Repeat
import Derived.Lib.SlicesS
import Derived.Deep.DeepCutAuto
import Derived.Lib.Join
import Derived.Laws.Concat
import Derived.Lib.SmallJoins
import Derived.SizedLaws
import Derived.Stop.LaidErr
import Derived.Deep.DeepWitnessRowRef
import Derived.ProofKit
import Derived.OpenShut
import Derived.Deep.DeepHandedRow
import Derived.Deep.DeepLaidRun
import Derived.Lib.LaidU8
import Derived.Shelf.Vars
import Derived.Laws.IdiomArrays
import Derived.Maps.OwnSet
import Derived.Maps.Range
import Derived.Sort.EncStr
import Derived.IntWalk
import Derived.Maps.AppendAt
import Derived.Deep.Slices
set_option linter.unusedVariables false
set_option maxRecDepth 100000
namespace Go.Proofs.YtnpfmoalgphkcaaGreatDoor
open Go Go.Proofs Go.ChangeShapes Go.WideShapes Go.ChangeAt Go.RowKit
theorem cells3 : Tryz.prog.cellsOf 3 = 1 := by kernel_rfl
section
variable {H : Type} {enc : TypeId × Value → H}
theorem open_intcells {W : World} {fuel : Nat} {v : Value} {x : DataW H × List MemPlace} (hf : DataW.trod enc Tryz.prog W 0 (fun _ => true) true fuel 49 [v] = some x) :
    ∃ A L c, v = .slice A (List.length L) c ∧ IntsIn W W.heap.size A L ∧ L.length ≤ 9223372036854775807 := by
  rcases open_ints Tryz.underlying49 Tryz.underlying3 cells3 hf with ⟨hcs, _⟩ | ⟨a, len, cap, zs, hcs, _, hl, hm, hz, _, hcell, hwz⟩
  · simp at hcs
    subst hcs
    exact ⟨none, [], 0, rfl, .inl rfl, by simp⟩
  · simp at hcs
    subst hcs
    have hz' : zs.length = cap := by simpa using hz
    refine ⟨some a, zs.take len, cap, ?_, ?_, ?_⟩
    · rw [List.length_take, Nat.min_eq_left (by omega)]
    · rcases Nat.eq_zero_or_pos len with h0 | h0
      · subst h0; exact .inl (by simp)
      · obtain ⟨b, off, rfl, hc⟩ := ints_at hcell (by omega)
        refine .inr ⟨b, off, rfl, World.block_lt_of_cell? W _ (hc 0 (by omega)), fun j u hu => ?_⟩
        have hj : j < len := by
          have := (List.getElem?_eq_some_iff.1 hu).1
          simp at this
          omega
        rw [hc j (by omega)]
        rw [List.getElem?_take, if_pos hj, List.getElem?_eq_getElem (by omega)] at hu
        simp only [Option.some.injEq] at hu
        subst hu
        have e : zs.getD j 0 = zs[j] := by simp [List.getD, List.getElem?_eq_getElem (show j < zs.length by omega)]
        rw [e]
    · unfold maxLen at hm
      rw [List.length_take]
      omega
theorem open_intlist {W : World} {base : Nat} {v : Value} {d : DataW H} {p : List MemPlace} (hv : Value.okWide Tryz.prog W .any base 49 v) (h : DataW.Trod enc Tryz.prog W 0 (fun _ => true) true 49 v d p) :
    ∃ A L c, v = .slice A (List.length L) c ∧ IntsIn W W.heap.size A L ∧ L.length ≤ 9223372036854775807 := by
  obtain ⟨a0, len, cap, rfl⟩ := okWide_slice Tryz.underlying49 hv
  obtain ⟨fuel, hf⟩ := h
  exact open_intcells hf
end
end Go.Proofs.YtnpfmoalgphkcaaGreatDoor
set_option maxRecDepth 100000
namespace Go.Proofs.YtnpfmoalgphkcaaGreatDoor
open Go Go.Proofs Go.ChangeShapes Go.WideShapes Go.ChangeAt Go.RowKit Go.Deep
theorem gPeople : Tryz.prog.globalNamed "timetable/timetablemade.people" = some 0 := by kernel_rfl
theorem cells9' : Tryz.prog.cellsOf 9 = 1 := by kernel_rfl
def People (W : World) : Prop := ∃ PB po pc, PeopleAt W PB po pc ∧ PB < W.heap.size
theorem people_ofL {W : World} {L : List (String × DataW Unit)} (hL : laidMet Tryz.prog L W) (hm : ("timetable/timetablemade.people", (Rows.laid_timetable_timetablemade_people : DataW Unit)) ∈ L) : People W := by
  obtain ⟨g, t, cs, fuel, p, hg, hty, hvar, hd⟩ := Lib.laidMet.reads hL hm
  obtain rfl := Option.some.inj (gPeople.symm.trans hg)
  obtain rfl := Option.some.inj ((show (Tryz.prog.globals[0]?).map (·.type) = some 58 by kernel_rfl).symm.trans hty)
  rcases open_slice Tryz.underlying58 hd with ⟨_, h⟩ | ⟨a, len, cap, mm, n, D, Pl, hcs, _, hl, hmx, hmm, hx, hel⟩
  · injection h with h _
    unfold Rows.laid_timetable_timetablemade_people at h
    cases h
  · injection hx with hx _
    unfold Rows.laid_timetable_timetablemade_people at hx
    injection hx with h1 h2
    have hlen : len = 3 := by have := congrArg List.length h1; simpa using this.symm
    subst hlen
    have hm3 : 3 ≤ mm := by rw [hmm]; split <;> omega
    have hD : ∀ i, i < 3 → D i = .lit (.string (personS i)) := by
      intro i hi
      have h := congrArg (·[i]?) h1
      rcases (show i = 0 ∨ i = 1 ∨ i = 2 by omega) with rfl | rfl | rfl
      all_goals
        simp at h
        exact h.symm
    have hc : ∀ i, i < 3 → W.cell? (a.add i) = some (.string (ba (personS i))) := by
      intro i hi
      obtain ⟨cs', e1, e2⟩ := hel i (by omega)
      rw [cells9', Nat.mul_one] at e1
      obtain ⟨s, rfl, e3, _⟩ := DataW.trod_string Tryz.underlying9 e2
      have h0 := (World.cells?_some e1).2.2 0 (by omega)
      have hs : s = ba (personS i) := by
        injection e3 with e3 _
        rw [hD i hi] at e3
        injection e3 with e3
        injection e3 with e3
        exact ba_of e3.symm
      subst hs
      obtain ⟨b, off, spot⟩ := a
      simpa [Addr.add] using h0
    obtain ⟨b, off, spot⟩ := a
    have hspot : spot = none := by simpa [Addr.add] using World.cell?_spot (hc 0 (by omega))
    subst hspot
    have hc' : ∀ i, i < 3 → W.cell? ⟨b, off + i, none⟩ = some (.string (ba (personS i))) := fun i hi => by rw [← Go.WideShapes.add_plain]; exact hc i hi
    refine ⟨b, off, cap, ⟨?_, hc'⟩, World.block_lt_of_cell? W _ (hc' 0 (by omega))⟩
    rw [World.var?_cell gPeople hvar 0, ← Array.getElem?_toList, hcs]
    rfl
end Go.Proofs.YtnpfmoalgphkcaaGreatDoor
