/-
  Numbers with a width, and a code's last number: plain mathematics. No program, no conditions.
  The made texts: Light, Roll, One, Text of package timetablemade. Conditions: the numbers lie in memory as a slice of ints.
  Letters, digits, signs, and whether a string is a code: the program's functions and the reference's. Conditions: none.
  Whether a string is a code: the reference's Valid. Conditions: none.
  From a walk to a row, for every statement of stage 12: a call that returns true and turns nothing that was there meets what a row asks. Condition: as the lemmas state.
  Requests as data, and in memory: slices of structs that came in, or that the call made. No program beyond the types' facts.
  What Join makes of a list of codes, and that List reads it again. Mathematics alone. Conditions: as the lemmas state.
  Sets of weeks: plain mathematics. No program, no conditions.
  The names of sets: the program's setOf and nameOf. Conditions: the table of names holds what its text lays; the number of weeks is from 1 to 20.
  The specification's Cut, Small and Decimal. Conditions: the strings fit into memory; the number is below 100.
  The text of a set: plain mathematics. No program, no conditions.
  Whether a string is in a list: timetablemade.has, timetableref02.Has. Conditions: the strings lie in memory.
  Lists of lists of strings: Plain of the specification of records, SameLists. Conditions: the lists lie in memory.
  What stands while the requests of RequestsLimits and their records are made. Conditions: as the lemmas state.
  The place of a request by the specification: find. Conditions: the requests lie in memory.
-/
import Derived.Test.YtdpfpkhbcdefmaaGreatDoorQN01
import Derived.Test.YtdpfpkhbcdefmaaGreatDoorQN02
import Derived.Test.YtdpfpkhbcdefmaaGreatDoorQN03
import Derived.Test.YtdpfpkhbcdefmaaGreatDoorQN04
import Derived.Test.YtdpfpkhbcdefmaaGreatDoorQN05
import Derived.Test.YtdpfpkhbcdefmaaGreatDoorQN06
import Derived.Test.YtdpfpkhbcdefmaaGreatDoorQN07
import Derived.Test.YtdpfpkhbcdefmaaGreatDoorQN08
import Derived.Test.YtdpfpkhbcdefmaaGreatDoorQN09
import Derived.Test.YtdpfpkhbcdefmaaGreatDoorQN10
import Derived.Test.YtdpfpkhbcdefmaaGreatDoorQN11
import Derived.Test.YtdpfpkhbcdefmaaGreatDoorQN12
import Derived.Test.YtdpfpkhbcdefmaaGreatDoorQN13
import Derived.Test.YtdpfpkhbcdefmaaGreatDoorQN14
import Derived.Test.YtdpfpkhbcdefmaaGreatDoorQN15
import Derived.Test.YtdpfpkhbcdefmaaGreatDoorQN16
import Derived.Test.YtdpfpkhbcdefmaaGreatDoorQN17
import Derived.Test.YtdpfpkhbcdefmaaGreatDoorQN18
import Derived.Test.YtdpfpkhbcdefmaaGreatDoorQN19
import Derived.Test.YtdpfpkhbcdefmaaGreatDoorQN20
import Derived.Test.YtdpfpkhbcdefmaaGreatDoorQN21
import Derived.Test.YtdpfpkhbcdefmaaGreatDoorQN22
import Derived.Test.YtdpfpkhbcdefmaaGreatDoorQN24
import Derived.Lib.Bytealg
import Derived.Lib.ItoaNum
import Derived.Lib.Atoi
import Derived.Lib.SlTrimSet
import Derived.Test.YtdpfpkhbcdefmaaGreatDoorProg
import Derived.WalkKit
import Derived.WalkSpells
import Derived.WalkLawsBesides
import Derived.Lib.Hide
import Derived.Deep.QuietTactic
import Derived.BigQuiet
import Derived.Laws.Rows
import Derived.OwnWalk
import Derived.Lib.BufferWrite
import Derived.Lib.UnsafeStr
import Derived.Laws.IdiomStrings
import Derived.Laws.BytesArg
import Derived.Laws.BytesString
import Derived.Test.YtdpfpkhbcdefmaaGreatDoorCards
import Derived.Test.YtdpfpkhbcdefmaaGreatDoorTie
import Derived.Shelf.Strings.Builder1
import Derived.Shelf.Strings.Builder2
import Derived.Shelf.Strings.OnBuilder
import Derived.Shelf.Strings.Trim
import Derived.Shelf.Small.Utf8
import Derived.Shelf.Small.Bits
import Derived.Shelf.Small.Strs
import Derived.Shelf.Small.Wraps
import Derived.Shelf.Strings.BuilderF
import Derived.Shelf.Strings.BuilderK
import Derived.Shelf.Strings.Builder2Cap
import Derived.Shelf.Strconv.Atoi
import Derived.Shelf.Strconv.Itoa0
import Derived.Shelf.Strconv.Itoa1
import Derived.Shelf.LaysM
import Derived.Shelf.Strconv.Itoa2
import Derived.Shelf.Strconv.Itoa3
import Derived.Shelf.Strconv.AtoiErrFast
import Derived.Shelf.Strconv.ParseIntEmpty
import Derived.Shelf.Strconv.AtoiFail
import Derived.Shelf.Strconv.Clone
import Derived.Shelf.Strconv.SyntaxError
import Derived.Shelf.LaysC
import Derived.Shelf.Strconv.ToError
import Derived.Shelf.Strconv.AtoiErr
import Derived.Shelf.Strings.Search1
import Derived.Shelf.Strings.Search2
import Derived.Shelf.Strings.Search3
import Derived.Shelf.Strings.Cut
import Derived.Shelf.Strings.Shaped
import Derived.Shelf.Strings.Prefix
import Derived.Shelf.Strings.Runes
import Derived.Shelf.Strings.AsciiSet
import Derived.Shelf.Bits.Mul64
import Derived.Shelf.Strings.Repeat
import Derived.Shelf.Unicode.DecodeSlow
import Derived.Shelf.Strings.BuilderCap
import Derived.Shelf.Slices.Turned
import Derived.Ground.Names2Prog
import Derived.Shelf.Slices.Clone
import Derived.Ground.SlsfProg
import Derived.Shelf.SlSortCmp.Insertion
import Derived.Shelf.SlSortCmp.Insertion1
import Derived.Shelf.Strings.SlTrimAscii
import Derived.Lib.AtoiErrMem
import Derived.Handy
import Derived.Laws.ResultCell
import Derived.RegionTactic
import Derived.Laws.OwnMore
import Derived.Lib.IndexLaws
import Derived.IntWalk
import Derived.Laws.AppendOwn
import Derived.Laws.BitsAllLaws
import Derived.Laws.BitsLemmas
import Derived.Deep.RegionLaw
import Derived.Deep.RegionHeld3
import Derived.OneCell
import Derived.Laws.Tables
import Derived.Laws.CopyOwn
import Derived.OrdersHeld
import Derived.Deep.DeepCutAuto
import Derived.Deep.CutBlock
import Derived.Lib.SmallJoins
import Derived.SizedLaws
import Derived.Stop.LaidErr
import Derived.Deep.DeepWitnessRowRef
import Derived.ProofKit
import Derived.OpenShut
import Derived.Deep.DeepHandedRow
import Derived.Deep.DeepLaidRun
import Derived.Deep.Slices
import Derived.Lib.LaidU8
import Derived.Shelf.Vars
import Derived.RangeFuncNested
import Derived.RangeFuncBound
import Derived.RangeFuncCalls
import Derived.RangeFuncLeaves
import Derived.Shelf.Abstract
import Derived.Shelf.RegionOpen
import Derived.OwnWalkIn
import Derived.Lib.Repeat
import Derived.Lib.SlicesS
import Derived.TacticsInMore
import Derived.LoopNIn
import Derived.LoopIn
import Derived.Deep.MidRow
import Derived.Lib.Join
import Derived.Laws.Concat
import Derived.Maps.OwnSet
import Derived.Maps.Range
import Derived.Maps.AppendAt
import Derived.Sort.WalkA
import Derived.Sort.LotA
import Derived.Shelf.SlGeneric
import Derived.Shelf.SlSortCmp.NoneTotal
import Derived.Deep.AppendLies
import Derived.StillTailTactics
set_option linter.unusedVariables false
namespace Go.Proofs.YtdpfpkhbcdefmaaGreatDoor.S3
open Go Go.Lib

/-- Digits are their number, written with as many digits. -/
theorem wr_self : ∀ (k : Nat) (u : Str), u.length = k + 1 → Dgs u → wrS (numN u) u.length = u
  | 0, u, hl, h => by
    match u, hl with
    | [c], _ =>
      have hc := dg_val (h c (by simp))
      have hn : numN [c] = c.toNat - 48 := by simp [numN]
      have hd : decDigits (c.toNat - 48) = [c] := by
        rw [dec_small (by omega), show 48 + (c.toNat - 48) = c.toNat by omega]
        simp
      unfold wrS
      rw [hn, hd]
      rfl
  | k + 1, u, hl, h => by
    obtain ⟨a, c, rfl⟩ : ∃ a c, u = a ++ [c] := by
      rcases List.eq_nil_or_concat u with h0 | ⟨a, c, h0⟩
      · rw [h0] at hl; simp at hl
      · exact ⟨a, c, by simpa using h0⟩
    have ha : a.length = k + 1 := by simpa using hl
    have hda : Dgs a := fun x hx => h x (List.mem_append_left _ hx)
    have hc := dg_val (h c (by simp))
    have ih := wr_self k a ha hda
    have hcc : UInt8.ofNat (48 + (c.toNat - 48)) = c := by rw [show 48 + (c.toNat - 48) = c.toNat by omega]; simp
    rw [numN_snoc]
    generalize numN a = m at ih ⊢
    by_cases hm : m = 0
    · subst hm
      have h0 : decDigits 0 = [48] := by rw [dec_small (by omega)]; rfl
      have hz : a = zerosS a.length := by
        conv => lhs; rw [← ih]
        unfold wrS
        rw [h0]
        unfold zerosS
        rw [ha]
        show List.replicate (k + 1 - 1) 48 ++ [48] = List.replicate (k + 1) 48
        rw [List.replicate_succ', show k + 1 - 1 = k by omega]
      unfold wrS
      rw [show 10 * 0 + (c.toNat - 48) = c.toNat - 48 by omega, dec_small (by omega), hcc]
      conv => rhs; rw [hz]
      rw [List.length_append]
      congr 1
    · unfold wrS at ih ⊢
      rw [dec_step m _ (by omega) (by omega), hcc, List.length_append, List.length_append, List.length_singleton,
        show a.length + 1 - ((decDigits m).length + 1) = a.length - (decDigits m).length by omega, ← List.append_assoc, ih]

/-! ### the last number of a code -/
end Go.Proofs.YtdpfpkhbcdefmaaGreatDoor.S3

set_option linter.unusedVariables false
namespace Go.Proofs.YtdpfpkhbcdefmaaGreatDoor
open Go Go.Proofs Go.RowKit Go.Lib

theorem byteCells_len (a : List UInt8) : (Go.Lib.byteCells a).length = a.length := by simp [Go.Lib.byteCells]
end Go.Proofs.YtdpfpkhbcdefmaaGreatDoor

set_option linter.unusedVariables false
namespace Go.Proofs.YtdpfpkhbcdefmaaGreatDoor.S3
open Go Go.Proofs Go.RowKit Go.Lib

set_option maxHeartbeats 1000000 in
theorem letter_any (c : UInt8) (w : World) : Calls Tryz.prog 75 #[.int .u8 (c.toNat : Int)] w fun e w' => e = .returned (.bool (ltr c)) ∧ w = w' := by
  rcases ltr_cases c with ⟨h, e⟩ | ⟨h, e⟩ | ⟨h, e⟩ | ⟨h, e⟩ | ⟨h, e⟩ <;> rw [e] <;> clear e
  · have z1 : ¬ (65 : Int) ≤ (c.toNat : Int) := by omega
    have z3 : ¬ (97 : Int) ≤ (c.toNat : Int) := by omega
    go_enter Tryz.func75, Tryz.ntmps75
    go_wp2
    go_ret
    exact ⟨rfl, rfl⟩
  · have z1 : (65 : Int) ≤ (c.toNat : Int) := by omega
    have z2 : (c.toNat : Int) ≤ 90 := by omega
    go_enter Tryz.func75, Tryz.ntmps75
    go_wp2
    go_ret
    exact ⟨rfl, rfl⟩
  · have z1 : (65 : Int) ≤ (c.toNat : Int) := by omega
    have z2 : ¬ (c.toNat : Int) ≤ 90 := by omega
    have z3 : ¬ (97 : Int) ≤ (c.toNat : Int) := by omega
    go_enter Tryz.func75, Tryz.ntmps75
    go_wp2
    go_ret
    exact ⟨rfl, rfl⟩
  · have z1 : (65 : Int) ≤ (c.toNat : Int) := by omega
    have z2 : ¬ (c.toNat : Int) ≤ 90 := by omega
    have z3 : (97 : Int) ≤ (c.toNat : Int) := by omega
    have z4 : (c.toNat : Int) ≤ 122 := by omega
    go_enter Tryz.func75, Tryz.ntmps75
    go_wp2
    go_ret
    exact ⟨rfl, rfl⟩
  · have z1 : (65 : Int) ≤ (c.toNat : Int) := by omega
    have z2 : ¬ (c.toNat : Int) ≤ 90 := by omega
    have z3 : (97 : Int) ≤ (c.toNat : Int) := by omega
    have z4 : ¬ (c.toNat : Int) ≤ 122 := by omega
    go_enter Tryz.func75, Tryz.ntmps75
    go_wp2
    go_ret
    exact ⟨rfl, rfl⟩
end Go.Proofs.YtdpfpkhbcdefmaaGreatDoor.S3

set_option linter.unusedVariables false
namespace Go.Proofs.YtdpfpkhbcdefmaaGreatDoor.S3
open Go Go.Proofs Go.RowKit Go.Lib

set_option maxHeartbeats 4000000 in
set_option maxRecDepth 100000 in
theorem refValid_any (s : ByteArray) (w : World) : Calls Tryz.prog 44 #[.string s] w fun e w' => e = .returned (.bool (validC s.data.toList)) ∧ w = w' := by
  obtain ⟨ANS, hANS⟩ : ∃ ANS, validC s.data.toList = ANS := ⟨_, rfl⟩
  rw [hANS]
  by_cases h0 : 0 < s.size
  · have hz1 : ¬ (s.size : Int) < 1 := by omega
    have hz1d : decide ((s.size : Int) < 1) = false := decide_eq_false hz1
    by_cases h16 : 16 < s.size
    · have hA : ANS = false := by rw [← hANS]; exact valid_big h16
      have hz : (16 : Int) < (s.size : Int) := by omega
      have hzd : decide ((16 : Int) < (s.size : Int)) = true := decide_eq_true hz
      have HA := hid hA
      clear hANS hA
      go_enter Tryz.func44, Tryz.ntmps44
      go_wp2
      go_ret
      rw [HA.out]
      exact ⟨rfl, rfl⟩
    · have hz : ¬ (16 : Int) < (s.size : Int) := by omega
      have hzd : decide ((16 : Int) < (s.size : Int)) = false := decide_eq_false hz
      obtain ⟨x0, hx0⟩ : ∃ x, s[0]'h0 = x := ⟨_, rfl⟩
      rcases sgn_cases x0 with ⟨g1, _, hs0⟩ | ⟨g1, _, g2, _, hs0⟩ | ⟨g1, _, g2, _, hs0⟩
      · have hA : ANS = false := by rw [← hANS]; exact valid_sign h0 (by rw [hx0]; exact hs0)
        have HA := hid hA
        clear hANS hA hs0
        go_enter Tryz.func44, Tryz.ntmps44
        go_wp2
        go_ret
        rw [HA.out]
        exact ⟨rfl, rfl⟩
      · have hA : ANS = false := by rw [← hANS]; exact valid_sign h0 (by rw [hx0]; exact hs0)
        have HA := hid hA
        clear hANS hA hs0
        go_enter Tryz.func44, Tryz.ntmps44
        go_wp2
        go_ret
        rw [HA.out]
        exact ⟨rfl, rfl⟩
      · have hA : s.data.toList.all okC = true → ANS = true := fun h => by rw [← hANS]; exact valid_yes h0 (by omega) (by rw [hx0]; exact hs0) h
        have hB : s.data.toList.all okC = false → ANS = false := fun h => by rw [← hANS]; exact validC_no h
        have HA := hid hA
        have HB := hid hB
        clear hANS hA hB hs0
        go_enter Tryz.func44, Tryz.ntmps44
        go_wp2
        clear hx0 g1 g2
        go_loop [3] (fun i => ∃ k : Nat, k ≤ s.size ∧ i = .int .i64 (k : Int) ∧ Hid ((s.data.toList.take k).all okC = true)) (fun i => s.size - (RowKit.intOf i).toNat)
        case atStart => exact ⟨0, Nat.zero_le _, rfl, hid rfl⟩
        case round =>
          obtain ⟨k, hk, rfl, hall⟩ := hrel
          by_cases hlt : k < s.size
          · have hltz : (k : Int) < (s.size : Int) := by omega
            have hsn := all_snoc s k hlt
            have hbad := all_bad s k hlt
            have cL := letter_any (s[k]'hlt)
            have cD := digit_any (s[k]'hlt)
            obtain ⟨x, hx⟩ : ∃ x, s[k]'hlt = x := ⟨_, rfl⟩
            rw [hx] at hsn hbad cL cD
            have HSN := hid hsn
            have HBAD := hid hbad
            clear hsn hbad
            have hcs : (Hid (okC x = true) ∧ (dg x = true ∨ (dg x = false ∧ ltr x = true) ∨ (dg x = false ∧ ltr x = false ∧ sgn x = true))) ∨ (Hid (okC x = false) ∧ dg x = false ∧ ltr x = false ∧ sgn x = false) := by
              unfold okC
              cases h1 : ltr x <;> cases h2 : dg x <;> cases h3 : sgn x
              · exact .inr ⟨hid rfl, rfl, rfl, rfl⟩
              · exact .inl ⟨hid rfl, .inr (.inr ⟨rfl, rfl, rfl⟩)⟩
              · exact .inl ⟨hid rfl, .inl rfl⟩
              · exact .inl ⟨hid rfl, .inl rfl⟩
              · exact .inl ⟨hid rfl, .inr (.inl ⟨rfl, rfl⟩)⟩
              · exact .inl ⟨hid rfl, .inr (.inl ⟨rfl, rfl⟩)⟩
              · exact .inl ⟨hid rfl, .inl rfl⟩
              · exact .inl ⟨hid rfl, .inl rfl⟩
            rcases hcs with ⟨ho, h1 | ⟨h1, h2⟩ | ⟨h1, h2, h3⟩⟩ | ⟨ho, h1, h2, h3⟩
            · rw [h1] at cD
              clear h1 cL
              go_wp2_with (go_at_call 56; refine (cD _).mono ?_; rintro e w' ⟨rfl, rfl⟩)
              go_round
              case rel => exact ⟨k + 1, hlt, by go_num, by rw [HSN.out, hall.out, ho.out]; exact hid rfl⟩
              case measure => simp [RowKit.intOf]; omega
            · rw [h1] at cD
              rw [h2] at cL
              clear h1 h2
              go_wp2_with (first | (go_at_call 56; refine (cD _).mono ?_; rintro e w' ⟨rfl, rfl⟩) | (go_at_call 75; refine (cL _).mono ?_; rintro e w' ⟨rfl, rfl⟩))
              go_round
              case rel => exact ⟨k + 1, hlt, by go_num, by rw [HSN.out, hall.out, ho.out]; exact hid rfl⟩
              case measure => simp [RowKit.intOf]; omega
            · rw [h1] at cD
              rw [h2] at cL
              clear h1 h2
              rcases sgn_cases x with ⟨g1, g1', _⟩ | ⟨g1, g1', g2, g2', _⟩ | ⟨_, _, _, _, h⟩
              · clear h3
                go_wp2_with (first | (go_at_call 56; refine (cD _).mono ?_; rintro e w' ⟨rfl, rfl⟩) | (go_at_call 75; refine (cL _).mono ?_; rintro e w' ⟨rfl, rfl⟩))
                go_round
                case rel => exact ⟨k + 1, hlt, by go_num, by rw [HSN.out, hall.out, ho.out]; exact hid rfl⟩
                case measure => simp [RowKit.intOf]; omega
              · clear h3
                go_wp2_with (first | (go_at_call 56; refine (cD _).mono ?_; rintro e w' ⟨rfl, rfl⟩) | (go_at_call 75; refine (cL _).mono ?_; rintro e w' ⟨rfl, rfl⟩))
                go_round
                case rel => exact ⟨k + 1, hlt, by go_num, by rw [HSN.out, hall.out, ho.out]; exact hid rfl⟩
                case measure => simp [RowKit.intOf]; omega
              · rw [h3] at h; simp at h
            · rw [h1] at cD
              rw [h2] at cL
              clear h1 h2
              rcases sgn_cases x with ⟨_, _, h⟩ | ⟨_, _, _, _, h⟩ | ⟨g1, g1', g2, g2', _⟩
              · rw [h3] at h; simp at h
              · rw [h3] at h; simp at h
              · clear h3
                go_wp2_with (first | (go_at_call 56; refine (cD _).mono ?_; rintro e w' ⟨rfl, rfl⟩) | (go_at_call 75; refine (cL _).mono ?_; rintro e w' ⟨rfl, rfl⟩))
                go_ret
                rw [HB.out (HBAD.out ho.out)]
                exact ⟨rfl, rfl⟩
          · have hltz : ¬ (k : Int) < (s.size : Int) := by omega
            have hfull : Hid (s.data.toList.all okC = true) := by
              have := hall.out
              rw [List.take_of_length_le (by rw [← Lib.size_eq]; omega)] at this
              exact hid this
            go_wp2
            go_ret
            rw [HA.out hfull.out]
            exact ⟨rfl, rfl⟩
  · have hz : (s.size : Int) < 1 := by omega
    have hzd : decide ((s.size : Int) < 1) = true := decide_eq_true hz
    have hz' : s.size = 0 := by omega
    have hsz := hz'
    rw [Lib.size_eq] at hz'
    have hnil : s.data.toList = [] := List.eq_nil_of_length_eq_zero hz'
    have hA : ANS = false := by rw [← hANS, hnil]; rfl
    have HA := hid hA
    clear hz' hsz hnil hANS hA
    go_enter Tryz.func44, Tryz.ntmps44
    go_wp2
    go_ret
    rw [HA.out]
    exact ⟨rfl, rfl⟩
end Go.Proofs.YtdpfpkhbcdefmaaGreatDoor.S3

set_option linter.unusedVariables false
set_option maxRecDepth 100000
namespace Go.Proofs.YtdpfpkhbcdefmaaGreatDoor.S12
open Go Go.Proofs Go.ChangeShapes Go.WideShapes Go.ChangeAt Go.RowKit Go.Deep Go.Proofs.YtdpfpkhbcdefmaaGreatDoor Go.Proofs.YtdpfpkhbcdefmaaGreatDoor.S10

section
variable {H : Type} {enc : TypeId × Value → H} {P : Program}
end

theorem row3 : Tryz.prog.readableRec 3 = true ∧ 3 < Tryz.prog.types.size := ⟨by kernel_rfl, of_decide_eq_true (by kernel_rfl)⟩
section
variable {H : Type} {enc : TypeId × Value → H} {w : World} {base : Nat} {sp : Nat → Bool} {held : Bool}
end
end Go.Proofs.YtdpfpkhbcdefmaaGreatDoor.S12

set_option linter.unusedVariables false
namespace Go.Proofs.YtdpfpkhbcdefmaaGreatDoor.S12
open Go Go.Proofs Go.RowKit Go.Lib Go.Proofs.YtdpfpkhbcdefmaaGreatDoor

theorem reqVals_one : ∀ (l : List (ReqD × ReqA)), ∀ u ∈ reqVals l, u.oneCell' = true := by
  intro l u hu
  obtain ⟨t, _, h⟩ := List.mem_flatMap.1 hu
  simp [reqVs] at h
  rcases h with rfl | rfl | rfl | rfl <;> rfl
end Go.Proofs.YtdpfpkhbcdefmaaGreatDoor.S12

set_option linter.unusedVariables false
namespace Go.Proofs.YtdpfpkhbcdefmaaGreatDoor.S3
open Go Go.Proofs Go.RowKit Go.Lib

theorem pre_nth (f : Str) (d : Nat) : preS (nthS f d) = preS f := by
  unfold nthS
  exact pre_app _ _ (wr_dgs _ _) (fun q c h => pre_end f q c h)
end Go.Proofs.YtdpfpkhbcdefmaaGreatDoor.S3

set_option linter.unusedVariables false
namespace Go.Proofs.YtdpfpkhbcdefmaaGreatDoor
open Go Go.Lib

/-! ### bits -/
/-! ### named sets, spans -/
/-! ### items -/
/-! ### runs -/
/-- A number below 100 in decimal. -/
def dec2 (u : Nat) : Str := if u < 10 then [UInt8.ofNat (48 + u)] else [UInt8.ofNat (48 + u / 10), UInt8.ofNat (48 + u % 10)]
end Go.Proofs.YtdpfpkhbcdefmaaGreatDoor

set_option linter.unusedVariables false
namespace Go.Proofs.YtdpfpkhbcdefmaaGreatDoor
open Go Go.Proofs Go.RowKit Go.Lib

/-- The table of names as one value. -/
def NA : Array Value := #[Value.string { data := #[97, 108, 108] }, Value.int IntKind.i64 1048575, Value.bool true, Value.bool true, Value.string { data := #[111, 100, 100] }, Value.int IntKind.i64 349525, Value.bool true, Value.bool true, Value.string { data := #[101, 118, 101, 110] }, Value.int IntKind.i64 699050, Value.bool true, Value.bool true, Value.string { data := #[102, 105, 114, 115, 116] }, Value.int IntKind.i64 1048575, Value.bool true, Value.bool false, Value.string { data := #[115, 101, 99, 111, 110, 100] }, Value.int IntKind.i64 1048575, Value.bool false, Value.bool true]
end Go.Proofs.YtdpfpkhbcdefmaaGreatDoor

set_option linter.unusedVariables false
namespace Go.Proofs.YtdpfpkhbcdefmaaGreatDoor
open Go Go.Proofs Go.RowKit Go.Lib

theorem lst_get (s : ByteArray) (j : Nat) (h : j < s.size) : (lst s)[j]? = some (s[j]'h) := by
  have h3 : j < s.data.size := h
  show s.data.toList[j]? = _
  rw [Array.getElem?_toList, Array.getElem?_eq_getElem h3]
  rfl
/-! ### Small -/
end Go.Proofs.YtdpfpkhbcdefmaaGreatDoor

set_option linter.unusedVariables false
namespace Go.Proofs.YtdpfpkhbcdefmaaGreatDoor
open Go Go.Lib

/-- The weeks from the i-th bit on, of k bits. -/
def wF (s : Nat) : Nat → Nat → List Nat
  | _, 0 => []
  | i, k + 1 => if bitB s i = true then (i + 1) :: wF s (i + 1) k else wF s (i + 1) k
end Go.Proofs.YtdpfpkhbcdefmaaGreatDoor

set_option linter.unusedVariables false
namespace Go.Proofs.YtdpfpkhbcdefmaaGreatDoor.S11
open Go Go.Proofs Go.RowKit Go.Lib Go.Proofs.YtdpfpkhbcdefmaaGreatDoor

set_option maxHeartbeats 2000000 in
set_option maxRecDepth 100000 in
theorem rhas_any (A : Option Addr) (l : List Str) (c : Nat) (x : ByteArray) (P : Nat → Prop) (w : World) (h : S3.StrsIn w P A l) (h63 : l.length ≤ 9223372036854775807) :
    Calls Tryz.prog 45 #[.slice A l.length c, .string x] w fun e w' => e = .returned (.bool (decide (lst x ∈ l))) ∧ w = w' := by
  obtain ⟨ANS, hA⟩ : ∃ ANS, decide (lst x ∈ l) = ANS := ⟨_, rfl⟩
  rw [hA]
  have HA : Hid (decide (lst x ∈ l.drop 0) = ANS) := hid hA
  have HH := hid h
  clear h hA
  go_enter Tryz.func45, Tryz.ntmps45
  go_wp2
  go_loop [5] (fun iv => ∃ i : Nat, iv = .int .i64 (i : Int) ∧ i ≤ l.length ∧ Hid (decide (lst x ∈ l.drop i) = ANS)) (fun iv => l.length - (RowKit.intOf iv).toNat)
  case atStart => exact ⟨0, rfl, Nat.zero_le _, HA⟩
  case round =>
    obtain ⟨i, rfl, hi, hE⟩ := hrel
    by_cases hlt : i < l.length
    · have hltz : (i : Int) < (l.length : Int) := by omega
      have dk : decide (l.length ≤ i) = false := decide_eq_false (by omega)
      obtain ⟨b1, o1, rfl, _, hc1⟩ := HH.out.at_ hlt
      have hst := hE.out
      rw [List.drop_eq_getElem_cons hlt] at hst
      obtain ⟨y, hy⟩ : ∃ y, l[i] = y := ⟨_, rfl⟩
      rw [hy] at hc1 hst
      obtain ⟨Y, hY⟩ : ∃ Y : ByteArray, (⟨y.toArray⟩ : ByteArray) = Y := ⟨_, rfl⟩
      have hYl : Y.toList = y := by rw [Lib.toList_data, ← hY]
      have hXl : x.toList = lst x := Lib.toList_data x
      have e1 : S3.strV y = .string Y := by rw [← hY]; rfl
      rw [e1] at hc1
      by_cases hxy : y = lst x
      · have hbe : (Y.toList == x.toList) = true := by rw [hXl, hYl, hxy]; simp
        have HST : Hid (ANS = true) := hid (by rw [← hst, hxy]; simp)
        clear hy hY hYl hXl e1 hst hE hxy
        go_wp2
        go_ret
        exact ⟨by rw [HST.out]; rfl, rfl⟩
      · have hbe : (Y.toList == x.toList) = false := by rw [hXl, hYl]; simpa using hxy
        have HST : Hid (decide (lst x ∈ l.drop (i + 1)) = ANS) := hid (by rw [← hst]; simp [Ne.symm hxy])
        clear hy hY hYl hXl e1 hst hE hxy
        go_wp2
        go_round
        case rel => exact ⟨i + 1, by go_num, by omega, HST⟩
        case measure => simp [RowKit.intOf]; omega
    · have hltz : ¬ (i : Int) < (l.length : Int) := by omega
      have HST : Hid (ANS = false) := hid (by rw [← hE.out, List.drop_of_length_le (by omega)]; simp)
      clear hE
      go_wp2
      go_ret
      exact ⟨by rw [HST.out]; rfl, rfl⟩
end Go.Proofs.YtdpfpkhbcdefmaaGreatDoor.S11

set_option linter.unusedVariables false
namespace Go.Proofs.YtdpfpkhbcdefmaaGreatDoor
open Go Go.Proofs Go.RowKit Go.Lib

theorem drewN_stays {w : World} {P : Nat → Prop} {A : Option Addr} {l : List Str} (h : S3.StrsIn w P A l) (q : Nat) : S3.StrsIn (w.drewN q) P A l := h.kept fun b _ => by
  induction q with
  | zero => rfl
  | succ q ih => exact ih
set_option maxHeartbeats 4000000 in
set_option maxRecDepth 100000 in
theorem sameLists_any (A A' : Option Addr) (la lb : List (List Str)) (ca cb : Nat) (P P' : Nat → Prop) (w : World) (ha : RowsIn w P A la) (hb : RowsIn w P' A' lb) (h63 : la.length ≤ 9223372036854775807) :
    Calls Tryz.prog 14 #[.slice A la.length ca, .slice A' lb.length cb] w fun e w' => e = .returned (.bool (decide (la = lb))) ∧ ∃ q, w' = w.drewN q := by
  by_cases hl : la.length = lb.length
  · have hlz : ((la.length : Int) != (lb.length : Int)) = false := by simp [hl]
    obtain ⟨ANS, hANS⟩ : ∃ ANS, decide (la = lb) = ANS := ⟨_, rfl⟩
    rw [hANS]
    have HA := hid ha
    have HB := hid hb
    have HANS := hid hANS
    have HL := hid hl
    clear ha hb hANS hl
    go_enter Tryz.func14, Tryz.ntmps14
    go_wp2
    go_loopw [5] (fun iv wr => ∃ i : Nat, iv = .int .i64 (i : Int) ∧ i ≤ la.length ∧ Hid (la.take i = lb.take i) ∧ Hid (∃ q, wr = w.drewN q)) (fun iv _ => la.length - (RowKit.intOf iv).toNat)
    case atStart => exact ⟨0, rfl, Nat.zero_le _, hid rfl, hid ⟨0, rfl⟩⟩
    case round =>
      obtain ⟨i, rfl, hi, ht, HQ⟩ := hrel
      have hst : ∀ k, wr.heap[k]? = w.heap[k]? := fun k => by obtain ⟨q, hq⟩ := HQ.out; rw [hq]; exact (Rolled.drawn (k + 1) w q).block k (by omega)
      by_cases hlt : i < la.length
      · have hltz : (i : Int) < (la.length : Int) := by omega
        have hltb : i < lb.length := by have := HL.out; omega
        have hltz2 : (i : Int) < (lb.length : Int) := by omega
        have d1 : decide (la.length ≤ i) = false := decide_eq_false (by omega)
        have d2 : decide (lb.length ≤ i) = false := decide_eq_false (by omega)
        obtain ⟨b1, o1, A1, c1, rfl, _, g1, e1, e2, s1⟩ := (HA.out.kept (fun b _ => hst b)).at_ hlt
        obtain ⟨b2, o2, A2, c2, rfl, _, g2, _, _, s2⟩ := (HB.out.kept (fun b _ => hst b)).at_ hltb
        have hiff : Hid (la.take (i + 1) = lb.take (i + 1) ↔ la[i] = lb[i]) := hid (by
          rw [List.take_succ_eq_append_getElem hlt, List.take_succ_eq_append_getElem hltb, ht.out]
          constructor
          · intro e
            have := List.append_cancel_left e
            simpa using this
          · intro e
            rw [e])
        have cS := fun k => S3.sameStrings_any A1 A2 la[i] lb[i] c1 c2 _ _ (wr.drewN k) (drewN_stays s1 k) (drewN_stays s2 k) (by omega)
        obtain ⟨D, hD⟩ : ∃ D, decide (la[i] = lb[i]) = D := ⟨_, rfl⟩
        rw [hD] at cS
        have HD : Hid (la[i] = lb[i] ↔ D = true) := hid (by rw [← hD]; simp)
        obtain ⟨n1, hn1⟩ : ∃ n, la[i].length = n := ⟨_, rfl⟩
        obtain ⟨n2, hn2⟩ : ∃ n, lb[i].length = n := ⟨_, rfl⟩
        rw [hn1] at cS g1
        rw [hn2] at cS g2
        have CS := hid cS
        clear cS hD hn1 hn2 s1 s2 hst e1 e2
        cases D with
        | true =>
          go_wp2
          go_quiet ((go_at_call 17; with_reducible refine Calls.quiet_of (CS.out _)))
          go_wp2
          go_roundw
          case rel => exact ⟨i + 1, by go_num, by omega, hid (hiff.out.2 (by have := HD.out; simpa using this)), hid (by obtain ⟨q, hq⟩ := HQ.out; exact ⟨q + nq, by rw [hq, World.drewN_drewN]⟩)⟩
          case measure => simp [RowKit.intOf]; omega
        | false =>
          have hf : ANS = false := by
            rw [← HANS.out]
            apply decide_eq_false
            intro e
            subst e
            have := HD.out
            simp at this
          subst hf
          go_wp2
          go_quiet ((go_at_call 17; with_reducible refine Calls.quiet_of (CS.out _)))
          go_wp2
          go_ret
          exact ⟨rfl, by obtain ⟨q, hq⟩ := HQ.out; exact ⟨q + nq, by rw [hq, World.drewN_drewN]⟩⟩
      · have hltz : ¬ (i : Int) < (la.length : Int) := by omega
        have hf : ANS = true := by
          rw [← HANS.out]
          apply decide_eq_true
          have h := ht.out
          rwa [List.take_of_length_le (by omega), List.take_of_length_le (by have := HL.out; omega)] at h
        subst hf
        go_wp2
        go_ret
        exact ⟨rfl, HQ.out⟩
  · have hlz : ((la.length : Int) != (lb.length : Int)) = true := by simp; omega
    have hf : decide (la = lb) = false := decide_eq_false (fun e => hl (by rw [e]))
    rw [hf]
    clear ha hb
    go_enter Tryz.func14, Tryz.ntmps14
    go_wp2
    go_ret
    exact ⟨rfl, 0, rfl⟩
end Go.Proofs.YtdpfpkhbcdefmaaGreatDoor

set_option linter.unusedVariables false
set_option maxRecDepth 100000
namespace Go.Proofs.YtdpfpkhbcdefmaaGreatDoor.S12
open Go Go.Proofs Go.RowKit Go.Lib Go.Proofs.YtdpfpkhbcdefmaaGreatDoor Go.Proofs.YtdpfpkhbcdefmaaGreatDoor.S10

def limS (i : Nat) : Str := [115, UInt8.ofNat (48 + i / 10), UInt8.ofNat (48 + i % 10)]
def limR (i : Nat) : ReqD := ⟨limS i, [65], 1, []⟩
def limF (i : Nat) : List Str := [limS i, [65], [49], []]
def limL (top j : Nat) : List ReqD := (List.range j).map (fun t => limR (top - t))
def limG (top j : Nat) : List (List Str) := (List.range j).map (fun t => limF (top - t))
theorem limL_snoc (top j : Nat) : limL top (j + 1) = limL top j ++ [limR (top - j)] := by unfold limL; rw [List.range_succ, List.map_append]; rfl
theorem limG_snoc (top j : Nat) : limG top (j + 1) = limG top j ++ [limF (top - j)] := by unfold limG; rw [List.range_succ, List.map_append]; rfl
theorem limL_len (top j : Nat) : (limL top j).length = j := by simp [limL]
theorem limG_len (top j : Nat) : (limG top j).length = j := by simp [limG]
theorem limL_small {top j : Nat} : ∀ r ∈ limL top j, r.s.length = 3 ∧ r.l.length = 0 := fun r hr => by
  obtain ⟨t, _, rfl⟩ := List.mem_map.1 hr
  exact ⟨rfl, rfl⟩
theorem limG_small {top j : Nat} : ∀ r ∈ limG top j, r.length = 4 ∧ ∀ s ∈ r, s.length ≤ 3 := fun r hr => by
  obtain ⟨t, _, rfl⟩ := List.mem_map.1 hr
  refine ⟨rfl, fun s hs => ?_⟩
  simp only [limF, List.mem_cons, List.not_mem_nil, or_false] at hs
  rcases hs with rfl | rfl | rfl | rfl <;> simp [limS]
theorem lim_want (m : Nat) (h : m < 5) : (wantF (limL (62 + m) (62 + m)) [115, 48, 49]).length < 20 := by
  rcases (show m = 0 ∨ m = 1 ∨ m = 2 ∨ m = 3 ∨ m = 4 by omega) with rfl | rfl | rfl | rfl | rfl <;> decide +kernel
theorem colsM_memL : ∀ (c : Int) (l : List Str) (f : FieldD), f ∈ colsM c l → f.1 ∈ l
  | c, [], f, h => by simp [colsM] at h
  | c, s :: r, f, h => by
    simp only [colsM, List.mem_cons] at h
    rcases h with rfl | h
    · simp
    · exact List.mem_cons_of_mem _ (colsM_memL _ r f h)
theorem lim_texts {top j : Nat} : ∀ x ∈ plainM (limG top j), ∀ f ∈ x.2, f.1.length ≤ 2097152 := fun x hx f hf => by
  unfold plainM at hx
  obtain ⟨i, hi, rfl⟩ := List.mem_mapIdx.1 hx
  have := (limG_small _ (List.getElem_mem hi)).2 f.1 (colsM_memL _ _ f hf)
  omega
theorem lim_bytes (a b : Nat) (ha : a ≤ 9) (hb : b ≤ 9) : [Value.int .u8 (48 + (a : Int)), .int .u8 (48 + (b : Int))] = Go.Lib.byteCells [UInt8.ofNat (48 + a), UInt8.ofNat (48 + b)] := by
  have h1 : (UInt8.ofNat (48 + a)).toNat = 48 + a := by simp; omega
  have h2 : (UInt8.ofNat (48 + b)).toNat = 48 + b := by simp; omega
  simp only [Go.Lib.byteCells, List.map_cons, List.map_nil, h1, h2]
  rfl
structure KLM (w0 : World) (P : List ReqP2) (L : List RowA) (v1 v2 : Value) (W : World) : Prop where
  b : Below w0.heap.size w0 W
  r : W.ownsRow w0.heap.size 61 4 v1 P.length (reqVals P)
  f : W.ownsRow w0.heap.size 40 1 v2 L.length (L.map rowV)
  i : ∀ p ∈ L, S3.StrsIn W (fun b => w0.heap.size ≤ b ∧ b < W.heap.size ∧ some b ≠ v2.ownBlock ∧ some b ≠ v1.ownBlock) p.2.1 p.1 ∧ p.1.length ≤ p.2.2 ∧ p.2.2 ≤ 9223372036854775807
section
variable {w0 W W' : World} {P : List ReqP2} {L : List RowA} {v1 v2 v1' v2' : Value}
theorem KLM.start (w0 : World) : KLM w0 [] [] (.slice none 0 0) (.slice none 0 0) w0 := ⟨Below.refl _ _, World.ownsRow_nil _ _ _ _, World.ownsRow_nil _ _ _ _, fun p hp => by simp at hp⟩
theorem KLM.next (h : KLM w0 P L v1 v2 W) (hb : Below W.heap.size W W') : KLM w0 P L v1 v2 W' :=
  ⟨h.b.trans (hb.mono h.b.size), S3.row_under h.r hb, S3.row_under h.f hb, fun p hp => ⟨((h.i p hp).1.kept (fun k hk => hb.block k hk.2.1)).mono (fun k hk => ⟨hk.1, Nat.lt_of_lt_of_le hk.2.1 hb.size, hk.2.2⟩), (h.i p hp).2⟩⟩
theorem still_neL {v v' : Value} (hat : v'.ownBlock = v.ownBlock ∨ ∃ k, v'.ownBlock = some k ∧ W.heap.size ≤ k) {k : Nat} (hk : k < W.heap.size) (h : some k ≠ v.ownBlock) : some k ≠ v'.ownBlock := by
  rcases hat with e | ⟨j, e, hj⟩
  · rw [e]; exact h
  · rw [e]; intro e0; injection e0 with e0; omega
theorem KLM.app1 {r : ReqD} {q : ReqA} (h : KLM w0 P L v1 v2 W) (hg : W.grownBy W' v1.ownBlock) (hown : W'.ownsRow w0.heap.size 61 4 v1' (P.length + 1) (reqVals P ++ reqVs r q))
    (hat : v1'.ownBlock = v1.ownBlock ∨ ∃ k, v1'.ownBlock = some k ∧ W.heap.size ≤ k) : KLM w0 (P ++ [(r, q)]) L v1' v2 W' := by
  have hs := hg.size
  refine ⟨h.b.grown hg h.b.size (fun k hk => (World.ownsRow.lt h.r k hk).1), ?_, World.ownsRow.kept h.f hg (kinds_ne h.f h.r (by decide)), fun p hp => ⟨((h.i p hp).1.kept (fun k hk => hg.block k hk.2.1 hk.2.2.2)).mono (fun k hk => ⟨hk.1, by omega, hk.2.2.1, still_neL hat hk.2.1 hk.2.2.2⟩), (h.i p hp).2⟩⟩
  rw [reqVals_app, List.length_append, List.length_singleton]
  simpa [reqVals] using hown
theorem KLM.app2 {l : List Str} {A : Option Addr} {c C : Nat} (h : KLM w0 P L v1 v2 W) (hC : w0.heap.size ≤ C) (h1 : ∀ k, v1.ownBlock = some k → k < C) (h2 : ∀ k, v2.ownBlock = some k → k < C)
    (hi : S3.StrsIn W (fun b => C ≤ b ∧ b < W.heap.size) A l) (hlc : l.length ≤ c) (hc : c ≤ 9223372036854775807) (hg : W.grownBy W' v2.ownBlock) (hown : W'.ownsRow w0.heap.size 40 1 v2' (L.length + 1) (L.map rowV ++ [.slice A l.length c]))
    (hat : v2'.ownBlock = v2.ownBlock ∨ ∃ k, v2'.ownBlock = some k ∧ W.heap.size ≤ k) : KLM w0 P (L ++ [(l, A, c)]) v1 v2' W' := by
  have hs := hg.size
  refine ⟨h.b.grown hg h.b.size (fun k hk => (World.ownsRow.lt h.f k hk).1), World.ownsRow.kept h.r hg (kinds_ne h.r h.f (by decide)), ?_, fun p hp => ?_⟩
  · rw [List.length_append, List.length_singleton, List.map_append]
    exact hown
  · rcases List.mem_append.1 hp with hp | hp
    · exact ⟨((h.i p hp).1.kept (fun k hk => hg.block k hk.2.1 hk.2.2.1)).mono (fun k hk => ⟨hk.1, by omega, still_neL hat hk.2.1 hk.2.2.1, hk.2.2.2⟩), (h.i p hp).2⟩
    · rw [List.mem_singleton] at hp
      subst hp
      have k1 : ∀ k, C ≤ k → some k ≠ v1.ownBlock := fun k hk e => by have := h1 k e.symm; omega
      have k2 : ∀ k, C ≤ k → some k ≠ v2.ownBlock := fun k hk e => by have := h2 k e.symm; omega
      exact ⟨(hi.kept (fun k hk => hg.block k hk.2 (k2 k hk.1))).mono (fun k hk => ⟨by omega, by omega, still_neL hat hk.2 (k2 k hk.1), k1 k hk.1⟩), hlc, hc⟩
theorem KLM.rows (h : KLM w0 P L v1 v2 W) : RowsRow W w0.heap.size v2 L := ⟨h.f, fun p hp => ⟨(h.i p hp).1.mono (fun k hk => ⟨hk.1, hk.2.1, fun e => hk.2.2.1 e.symm⟩), (h.i p hp).2⟩⟩
theorem KLM.reqs (h : KLM w0 P L v1 v2 W) {l : List ReqD} (hl : P.map (·.1) = l) (hP : ∀ p ∈ P, p.1.l = [] ∧ p.2 = (none, 0)) : ReqRow W w0.heap.size (fun k => k < W.heap.size) v1 l := by
  subst hl
  refine ⟨P, rfl, by rw [List.length_map]; exact h.r, fun p hp => ?_⟩
  obtain ⟨e1, e2⟩ := hP p hp
  rw [e2]
  exact ⟨.inl e1, by rw [e1]; exact Nat.le_refl _, by show (0 : Nat) ≤ _; omega⟩
end
end Go.Proofs.YtdpfpkhbcdefmaaGreatDoor.S12

set_option linter.unusedVariables false
namespace Go.Proofs.YtdpfpkhbcdefmaaGreatDoor.S12
open Go Go.Proofs Go.RowKit Go.Lib Go.Proofs.YtdpfpkhbcdefmaaGreatDoor

/-- The first place, -1 if there is none. -/
def idxP : List (Str × Str) → Str × Str → Nat → Int
  | [], _, _ => -1
  | x :: r, c, k => if x = c then (k : Int) else idxP r c (k + 1)
theorem idxP_spec : ∀ (l : List (Str × Str)) (c : Str × Str) (k : Nat), (c ∉ l ∧ idxP l c k = -1) ∨ ∃ j, ∃ hj : j < l.length, l[j] = c ∧ (∀ m, ∀ hm : m < j, l[m]'(by omega) ≠ c) ∧ idxP l c k = (k : Int) + j
  | [], c, k => .inl ⟨by simp, rfl⟩
  | x :: r, c, k => by
    unfold idxP
    by_cases h : x = c
    · rw [if_pos h]
      exact .inr ⟨0, by simp, h, fun m hm => by omega, by simp⟩
    · rw [if_neg h]
      rcases idxP_spec r c (k + 1) with ⟨h1, h2⟩ | ⟨j, hj, h1, h2, h3⟩
      · exact .inl ⟨by simp [Ne.symm h, h1], h2⟩
      · refine .inr ⟨j + 1, by simpa using hj, by simpa using h1, fun m hm => ?_, by rw [h3]; push_cast; omega⟩
        cases m with
        | zero => simpa using h
        | succ m => simpa using h2 m (by omega)
theorem idxP_pos (l : List (Str × Str)) (c : Str × Str) : (0 ≤ idxP l c 0) ↔ c ∈ l := by
  rcases idxP_spec l c 0 with ⟨h1, h2⟩ | ⟨j, hj, h1, _, h3⟩
  · rw [h2]; constructor
    · intro h; omega
    · intro h; exact absurd h h1
  · rw [h3]; constructor
    · intro _; rw [← h1]; exact List.getElem_mem hj
    · intro _; omega
theorem idxP_lt (l : List (Str × Str)) (i : Nat) (hi : i < l.length) : (idxP l l[i] 0 < (i : Int)) ↔ l[i] ∈ l.take i := by
  rcases idxP_spec l l[i] 0 with ⟨h1, h2⟩ | ⟨j, hj, h1, h2, h3⟩
  · exact absurd (List.getElem_mem hi) h1
  · rw [h3]
    constructor
    · intro h
      have hji : j < i := by omega
      rw [← h1]
      exact List.mem_take_iff_getElem.2 ⟨j, by omega, rfl⟩
    · intro h
      obtain ⟨m, hm, he⟩ := List.mem_take_iff_getElem.1 h
      by_cases hjm : j ≤ m
      · omega
      · exact absurd he (h2 m (by omega))
theorem wishes_drop (l : List ReqD) (k : Nat) (h : k < l.length) : wishes (l.drop k) = (l[k].s, l[k].c) :: wishes (l.drop (k + 1)) := by
  rw [List.drop_eq_getElem_cons h]; rfl
theorem wishes_len (l : List ReqD) : (wishes l).length = l.length := List.length_map _
theorem wishes_take (l : List ReqD) (i : Nat) : (wishes l).take i = wishes (l.take i) := by unfold wishes; rw [List.map_take]
theorem wish_stud {l : List ReqD} {s c : Str} (h : (s, c) ∈ wishes l) : s ∈ studs l := by
  unfold wishes at h
  obtain ⟨r, hr, e⟩ := List.mem_map.1 h
  injection e with e1 e2
  exact (mem_studs l s).2 ⟨r, hr, e1⟩

set_option maxHeartbeats 4000000 in
set_option maxRecDepth 100000 in
theorem rfind_any (A : Option Addr) (l : List ReqD) (c : Nat) (s x : ByteArray) (P : Nat → Prop) (w : World) (h : ReqsIn w P A l) (hl63 : l.length ≤ 9223372036854775807) :
    Calls Tryz.prog 46 #[.slice A l.length c, .string s, .string x] w fun e w' => e = .returned (.int .i64 (idxP (wishes l) (lst s, lst x) 0)) ∧ w = w' := by
  obtain ⟨R, hR⟩ : ∃ R, idxP (wishes l) (lst s, lst x) 0 = R := ⟨_, rfl⟩
  rw [hR]
  have HR : Hid (idxP (wishes (l.drop 0)) (lst s, lst x) 0 = R) := hid hR
  have HH := hid h
  clear hR h
  go_enter Tryz.func46, Tryz.ntmps46
  go_wp2
  go_loop [7] (fun iv => ∃ k : Nat, iv = .int .i64 (k : Int) ∧ k ≤ l.length ∧ Hid (idxP (wishes (l.drop k)) (lst s, lst x) k = R)) (fun iv => l.length - (RowKit.intOf iv).toNat)
  case atStart => exact ⟨0, rfl, Nat.zero_le _, HR⟩
  case round =>
    obtain ⟨k, rfl, hk, hE⟩ := hrel
    by_cases hlt : k < l.length
    · have hltz : (k : Int) < (l.length : Int) := by omega
      have dk : decide (l.length ≤ k) = false := decide_eq_false (by omega)
      obtain ⟨fb, fo, q, rfl, hfb, hri, y0, y1, y2, y3⟩ := HH.out.at_ hlt
      have hst := hE.out
      rw [wishes_drop l k hlt] at hst
      unfold idxP at hst
      obtain ⟨Y, hY⟩ : ∃ Y, ba l[k].s = Y := ⟨_, rfl⟩
      have hYl : lst Y = l[k].s := by rw [← hY]; rfl
      rw [hY] at y0
      obtain ⟨Z, hZ⟩ : ∃ Y, ba l[k].c = Y := ⟨_, rfl⟩
      have hZl : lst Z = l[k].c := by rw [← hZ]; rfl
      rw [hZ] at y1
      have ty : Y.toList = lst Y := Lib.toList_data Y
      have ts : s.toList = lst s := Lib.toList_data s
      have tz : Z.toList = lst Z := Lib.toList_data Z
      have tx : x.toList = lst x := Lib.toList_data x
      rw [← hYl, ← hZl] at hst
      clear hri hY hYl hZ hZl y2 y3
      by_cases he : lst Y = lst s
      · have b1 : (Y.toList == s.toList) = true := by rw [ty, ts, he]; simp
        by_cases he2 : lst Z = lst x
        · rw [if_pos (by rw [he, he2])] at hst
          have b2 : (Z.toList == x.toList) = true := by rw [tz, tx, he2]; simp
          have HRR := hid hst.symm
          clear hst ty ts tz tx he he2
          go_wp2
          go_ret
          exact ⟨by rw [HRR.out]; rfl, rfl⟩
        · rw [if_neg (fun e => by injection e with _ e; exact he2 e)] at hst
          have b2 : (Z.toList == x.toList) = false := by rw [tz, tx]; simpa using he2
          have HRR := hid hst
          clear hst ty ts tz tx he he2
          go_wp2
          go_round
          case rel => exact ⟨k + 1, by go_num, by omega, HRR⟩
          case measure => simp [RowKit.intOf]; omega
      · rw [if_neg (fun e => by injection e with e _; exact he e)] at hst
        have b1 : (Y.toList == s.toList) = false := by rw [ty, ts]; simpa using he
        have HRR := hid hst
        clear hst ty ts tz tx he
        go_wp2
        go_round
        case rel => exact ⟨k + 1, by go_num, by omega, HRR⟩
        case measure => simp [RowKit.intOf]; omega
    · have hltz : ¬ (k : Int) < (l.length : Int) := by omega
      have hst := hE.out
      rw [List.drop_of_length_le (by omega)] at hst
      have HRR : Hid (R = -1) := hid hst.symm
      clear hst
      go_wp2
      go_ret
      exact ⟨by rw [HRR.out]; rfl, rfl⟩
end Go.Proofs.YtdpfpkhbcdefmaaGreatDoor.S12

