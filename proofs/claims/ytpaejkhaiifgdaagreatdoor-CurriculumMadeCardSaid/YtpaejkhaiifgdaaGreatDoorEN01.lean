/-
  Numbers with a width, and a code's last number: plain mathematics. No program, no conditions.
  The made texts: Light, Roll, One, Text of package timetablemade. Conditions: the numbers lie in memory as a slice of ints.
  Letters, digits, signs, and whether a string is a code: the program's functions and the reference's. Conditions: none.
  Whether a string is a code: the reference's Valid. Conditions: none.
  Times and rooms in memory: slices of structs that came in, or that the call made. No program beyond the types' facts.
  From a walk to a row, for every statement of stage 11: a call that returns true and turns nothing that was there meets what a row asks. Condition: as the lemmas state.
  What Join makes of a list of codes, and that List reads it again. Mathematics alone. Conditions: as the lemmas state.
  Curricula as data: what is asked of one and of a list; their records. No program.
  The place of a curriculum, and whether one is there, by the specification: Index, Clear, Free. Conditions: the curricula lie in memory.
  Two dots in a part of a list, and the codes of a range: plain mathematics. No program, no conditions.
-/
import Derived.Test.YtpaejkhaiifgdaaGreatDoorGN01
import Derived.Test.YtpaejkhaiifgdaaGreatDoorGN02
import Derived.Test.YtpaejkhaiifgdaaGreatDoorGN03
import Derived.Test.YtpaejkhaiifgdaaGreatDoorGN04
import Derived.Test.YtpaejkhaiifgdaaGreatDoorGN05
import Derived.Test.YtpaejkhaiifgdaaGreatDoorGN06
import Derived.Test.YtpaejkhaiifgdaaGreatDoorGN07
import Derived.Test.YtpaejkhaiifgdaaGreatDoorGN08
import Derived.Test.YtpaejkhaiifgdaaGreatDoorGN09
import Derived.Test.YtpaejkhaiifgdaaGreatDoorGN10
import Derived.Test.YtpaejkhaiifgdaaGreatDoorGN11
import Derived.Test.YtpaejkhaiifgdaaGreatDoorGN12
import Derived.Test.YtpaejkhaiifgdaaGreatDoorGN13
import Derived.Test.YtpaejkhaiifgdaaGreatDoorGN14
import Derived.Test.YtpaejkhaiifgdaaGreatDoorGN15
import Derived.Test.YtpaejkhaiifgdaaGreatDoorGN16
import Derived.Test.YtpaejkhaiifgdaaGreatDoorGN17
import Derived.Test.YtpaejkhaiifgdaaGreatDoorGN18
import Derived.Lib.Bytealg
import Derived.Lib.ItoaNum
import Derived.Lib.Atoi
import Derived.Lib.SlTrimSet
import Derived.Test.YtpaejkhaiifgdaaGreatDoorProg
import Derived.WalkKit
import Derived.WalkSpells
import Derived.WalkLawsBesides
import Derived.Lib.Hide
import Derived.Deep.QuietTactic
import Derived.BigQuiet
import Derived.Laws.Rows
import Derived.OwnWalk
import Derived.Lib.BufferWrite
import Derived.Lib.UnsafeStr
import Derived.Laws.IdiomStrings
import Derived.Laws.BytesArg
import Derived.Laws.BytesString
import Derived.Laws.OwnMore
import Derived.Lib.IndexLaws
import Derived.Test.YtpaejkhaiifgdaaGreatDoorCards
import Derived.Test.YtpaejkhaiifgdaaGreatDoorTie
import Derived.Shelf.Strings.Builder1
import Derived.Shelf.Strings.Builder2
import Derived.Shelf.Strings.OnBuilder
import Derived.Shelf.Strings.Trim
import Derived.Shelf.Small.Utf8
import Derived.Shelf.Small.Strs
import Derived.Shelf.Strings.BuilderF
import Derived.Shelf.Strings.BuilderK
import Derived.Shelf.Strings.Builder2Cap
import Derived.Shelf.Strconv.Atoi
import Derived.Shelf.Strconv.Itoa0
import Derived.Shelf.Strconv.Itoa1
import Derived.Shelf.LaysM
import Derived.Shelf.Strconv.Itoa2
import Derived.Shelf.Strconv.Itoa3
import Derived.Shelf.Strconv.AtoiErrFast
import Derived.Shelf.Strconv.ParseIntEmpty
import Derived.Shelf.Strconv.AtoiFail
import Derived.Shelf.Strconv.Clone
import Derived.Shelf.Strconv.SyntaxError
import Derived.Shelf.LaysC
import Derived.Shelf.Strconv.ToError
import Derived.Shelf.Strconv.AtoiErr
import Derived.Shelf.Strings.Search1
import Derived.Shelf.Strings.Search2
import Derived.Shelf.Strings.Search3
import Derived.Shelf.Strings.Cut
import Derived.Shelf.Strings.Shaped
import Derived.Shelf.Strings.Prefix
import Derived.Shelf.Strings.Runes
import Derived.Shelf.Strings.AsciiSet
import Derived.Shelf.Bits.Mul64
import Derived.Shelf.Strings.Repeat
import Derived.Shelf.Unicode.DecodeSlow
import Derived.Shelf.Strings.BuilderCap
import Derived.Shelf.Slices.Turned
import Derived.Shelf.Strings.SlTrimAscii
import Derived.Lib.AtoiErrMem
import Derived.Handy
import Derived.Laws.ResultCell
import Derived.RegionTactic
import Derived.IntWalk
import Derived.Laws.AppendOwn
import Derived.Laws.BitsAllLaws
import Derived.Laws.BitsLemmas
import Derived.Deep.RegionLaw
import Derived.Deep.RegionHeld3
import Derived.OneCell
import Derived.Laws.Tables
import Derived.Laws.CopyOwn
import Derived.OrdersHeld
import Derived.Deep.DeepCutAuto
import Derived.Deep.CutBlock
import Derived.Lib.SmallJoins
import Derived.SizedLaws
import Derived.Stop.LaidErr
import Derived.Deep.DeepWitnessRowRef
import Derived.ProofKit
import Derived.OpenShut
import Derived.Deep.DeepHandedRow
import Derived.Deep.DeepLaidRun
import Derived.Deep.Slices
import Derived.Lib.LaidU8
import Derived.Shelf.Vars
import Derived.RangeFuncNested
import Derived.RangeFuncBound
import Derived.RangeFuncCalls
import Derived.RangeFuncLeaves
import Derived.Shelf.Abstract
import Derived.Shelf.RegionOpen
import Derived.OwnWalkIn
import Derived.Lib.Repeat
import Derived.Lib.SlicesS
import Derived.TacticsInMore
import Derived.LoopNIn
import Derived.LoopIn
import Derived.StillTailTactics
set_option linter.unusedVariables false
namespace Go.Proofs.YtpaejkhaiifgdaaGreatDoor.S3
open Go Go.Lib

theorem numN_snoc (l : Str) (c : UInt8) : numN (l ++ [c]) = 10 * numN l + (c.toNat - 48) := by simp [numN]
theorem ofNat_val {d : Nat} (h : d < 10) : (UInt8.ofNat (48 + d)).toNat = 48 + d := by
  simp
  omega
theorem dg_ofNat {d : Nat} (h : d < 10) : dg (UInt8.ofNat (48 + d)) = true := by
  unfold dg
  rw [ofNat_val h]
  simp
  omega
theorem dec_facts : ∀ (n u : Nat), u ≤ n → Dgs (decDigits u) ∧ numN (decDigits u) = u ∧ 1 ≤ (decDigits u).length
  | 0, u, h => by
    obtain rfl : u = 0 := by omega
    rw [dec_small (by omega)]
    refine ⟨fun c hc => ?_, rfl, by simp⟩
    obtain rfl : c = UInt8.ofNat (48 + 0) := by simpa using hc
    decide
  | n + 1, u, h => by
    by_cases hu : u < 10
    · rw [dec_small hu]
      refine ⟨fun c hc => ?_, ?_, by simp⟩
      · obtain rfl : c = UInt8.ofNat (48 + u) := by simpa using hc
        exact dg_ofNat hu
      · show 10 * 0 + ((UInt8.ofNat (48 + u)).toNat - 48) = u
        rw [ofNat_val hu]
        omega
    · obtain ⟨m, d, hm, hd, rfl⟩ : ∃ m d, 1 ≤ m ∧ d < 10 ∧ u = 10 * m + d := ⟨u / 10, u % 10, by omega, by omega, by omega⟩
      obtain ⟨h1, h2, h3⟩ := dec_facts n m (by omega)
      rw [dec_step m d hm hd]
      refine ⟨fun c hc => ?_, ?_, by simp⟩
      · rcases List.mem_append.1 hc with hc | hc
        · exact h1 c hc
        · obtain rfl : c = UInt8.ofNat (48 + d) := by simpa using hc
          exact dg_ofNat hd
      · rw [numN_snoc, h2, ofNat_val hd]
        omega
theorem dec_dgs (u : Nat) : Dgs (decDigits u) := (dec_facts u u (Nat.le_refl _)).1
theorem dec_num (u : Nat) : numN (decDigits u) = u := (dec_facts u u (Nat.le_refl _)).2.1
theorem dec_pos (u : Nat) : 1 ≤ (decDigits u).length := (dec_facts u u (Nat.le_refl _)).2.2
theorem num_zeros : ∀ (k : Nat) (l : Str), numN (zerosS k ++ l) = numN l
  | 0, l => rfl
  | k + 1, l => by
    have ih := num_zeros k l
    unfold numN zerosS at ih ⊢
    rw [List.replicate_succ]
    simpa using ih
theorem wr_num (n w : Nat) : numN (wrS n w) = n := by unfold wrS; rw [num_zeros, dec_num]
theorem wr_dgs (n w : Nat) : Dgs (wrS n w) := fun c hc => by
  rcases List.mem_append.1 hc with hc | hc
  · obtain rfl : c = 48 := List.eq_of_mem_replicate hc
    decide
  · exact dec_dgs n c hc
theorem wr_len (n w : Nat) : (wrS n w).length = max w (decDigits n).length := by
  unfold wrS zerosS
  rw [List.length_append, List.length_replicate]
  omega
theorem wr_ne (n w : Nat) : wrS n w ≠ [] := fun e => by
  have h1 := wr_len n w
  have h2 := dec_pos n
  rw [e] at h1
  simp at h1
  omega
/-- Digits are their number, written with as many digits. -/
theorem wr_self : ∀ (k : Nat) (u : Str), u.length = k + 1 → Dgs u → wrS (numN u) u.length = u
  | 0, u, hl, h => by
    match u, hl with
    | [c], _ =>
      have hc := dg_val (h c (by simp))
      have hn : numN [c] = c.toNat - 48 := by simp [numN]
      have hd : decDigits (c.toNat - 48) = [c] := by
        rw [dec_small (by omega), show 48 + (c.toNat - 48) = c.toNat by omega]
        simp
      unfold wrS
      rw [hn, hd]
      rfl
  | k + 1, u, hl, h => by
    obtain ⟨a, c, rfl⟩ : ∃ a c, u = a ++ [c] := by
      rcases List.eq_nil_or_concat u with h0 | ⟨a, c, h0⟩
      · rw [h0] at hl; simp at hl
      · exact ⟨a, c, by simpa using h0⟩
    have ha : a.length = k + 1 := by simpa using hl
    have hda : Dgs a := fun x hx => h x (List.mem_append_left _ hx)
    have hc := dg_val (h c (by simp))
    have ih := wr_self k a ha hda
    have hcc : UInt8.ofNat (48 + (c.toNat - 48)) = c := by rw [show 48 + (c.toNat - 48) = c.toNat by omega]; simp
    rw [numN_snoc]
    generalize numN a = m at ih ⊢
    by_cases hm : m = 0
    · subst hm
      have h0 : decDigits 0 = [48] := by rw [dec_small (by omega)]; rfl
      have hz : a = zerosS a.length := by
        conv => lhs; rw [← ih]
        unfold wrS
        rw [h0]
        unfold zerosS
        rw [ha]
        show List.replicate (k + 1 - 1) 48 ++ [48] = List.replicate (k + 1) 48
        rw [List.replicate_succ', show k + 1 - 1 = k by omega]
      unfold wrS
      rw [show 10 * 0 + (c.toNat - 48) = c.toNat - 48 by omega, dec_small (by omega), hcc]
      conv => rhs; rw [hz]
      rw [List.length_append]
      congr 1
    · unfold wrS at ih ⊢
      rw [dec_step m _ (by omega) (by omega), hcc, List.length_append, List.length_append, List.length_singleton,
        show a.length + 1 - ((decDigits m).length + 1) = a.length - (decDigits m).length by omega, ← List.append_assoc, ih]

/-! ### the last number of a code -/
theorem dropWhile_head {p : UInt8 → Bool} : ∀ (l : Str) (c : UInt8) (r : Str), l.dropWhile p = c :: r → p c = false
  | [], c, r, h => by simp at h
  | x :: l, c, r, h => by
    by_cases hx : p x = true
    · rw [List.dropWhile_cons_of_pos hx] at h
      exact dropWhile_head l c r h
    · rw [List.dropWhile_cons_of_neg hx] at h
      injection h with h _
      subst h
      simpa using hx
theorem pre_end (s p : Str) (c : UInt8) (h : preS s = p ++ [c]) : dg c = false := by
  unfold preS at h
  have := congrArg List.reverse h
  rw [List.reverse_reverse, List.reverse_append] at this
  exact dropWhile_head _ c _ this
theorem pre_app (p v : Str) (hv : Dgs v) (hp : ∀ q c, p = q ++ [c] → dg c = false) : preS (p ++ v) = p := by
  unfold preS
  rw [List.reverse_append, List.dropWhile_append_of_pos (fun x hx => hv x (by simpa using hx))]
  cases hr : p.reverse with
  | nil =>
    have : p = [] := by simpa using hr
    rw [this]
    rfl
  | cons c r =>
    have hpc : p = r.reverse ++ [c] := by
      have := congrArg List.reverse hr
      simpa using this
    rw [List.dropWhile_cons_of_neg (by rw [hp _ _ hpc]; simp)]
    rw [hpc]
    simp
theorem last_app (p v : Str) (hv : Dgs v) (hp : ∀ q c, p = q ++ [c] → dg c = false) : lastS (p ++ v) = v := by
  unfold lastS
  rw [pre_app p v hv hp]
  simp
end Go.Proofs.YtpaejkhaiifgdaaGreatDoor.S3

set_option linter.unusedVariables false
namespace Go.Proofs.YtpaejkhaiifgdaaGreatDoor
open Go Go.Proofs Go.RowKit Go.Lib

theorem byteCells_len (a : List UInt8) : (byteCells a).length = a.length := by simp [byteCells]
end Go.Proofs.YtpaejkhaiifgdaaGreatDoor

set_option linter.unusedVariables false
namespace Go.Proofs.YtpaejkhaiifgdaaGreatDoor.S3
open Go Go.Proofs Go.RowKit Go.Lib

set_option maxHeartbeats 1000000 in
theorem digit_any (c : UInt8) (w : World) : Calls Tryz.prog 63 #[.int .u8 (c.toNat : Int)] w fun e w' => e = .returned (.bool (dg c)) ∧ w = w' := by
  unfold dg
  rcases (show c.toNat < 48 ∨ (48 ≤ c.toNat ∧ c.toNat ≤ 57) ∨ 57 < c.toNat by omega) with h | h | h
  · have z1 : ¬ (48 : Int) ≤ (c.toNat : Int) := by omega
    rw [show (decide (48 ≤ c.toNat) && decide (c.toNat ≤ 57)) = false by simp; omega]
    go_enter Tryz.func63, Tryz.ntmps63
    go_wp2
    go_ret
    exact ⟨rfl, rfl⟩
  · have z1 : (48 : Int) ≤ (c.toNat : Int) := by omega
    have z2 : (c.toNat : Int) ≤ 57 := by omega
    rw [show (decide (48 ≤ c.toNat) && decide (c.toNat ≤ 57)) = true by simp; omega]
    go_enter Tryz.func63, Tryz.ntmps63
    go_wp2
    go_ret
    exact ⟨rfl, rfl⟩
  · have z1 : (48 : Int) ≤ (c.toNat : Int) := by omega
    have z2 : ¬ (c.toNat : Int) ≤ 57 := by omega
    rw [show (decide (48 ≤ c.toNat) && decide (c.toNat ≤ 57)) = false by simp; omega]
    go_enter Tryz.func63, Tryz.ntmps63
    go_wp2
    go_ret
    exact ⟨rfl, rfl⟩
set_option maxHeartbeats 1000000 in
theorem letter_any (c : UInt8) (w : World) : Calls Tryz.prog 64 #[.int .u8 (c.toNat : Int)] w fun e w' => e = .returned (.bool (ltr c)) ∧ w = w' := by
  rcases ltr_cases c with ⟨h, e⟩ | ⟨h, e⟩ | ⟨h, e⟩ | ⟨h, e⟩ | ⟨h, e⟩ <;> rw [e] <;> clear e
  · have z1 : ¬ (65 : Int) ≤ (c.toNat : Int) := by omega
    have z3 : ¬ (97 : Int) ≤ (c.toNat : Int) := by omega
    go_enter Tryz.func64, Tryz.ntmps64
    go_wp2
    go_ret
    exact ⟨rfl, rfl⟩
  · have z1 : (65 : Int) ≤ (c.toNat : Int) := by omega
    have z2 : (c.toNat : Int) ≤ 90 := by omega
    go_enter Tryz.func64, Tryz.ntmps64
    go_wp2
    go_ret
    exact ⟨rfl, rfl⟩
  · have z1 : (65 : Int) ≤ (c.toNat : Int) := by omega
    have z2 : ¬ (c.toNat : Int) ≤ 90 := by omega
    have z3 : ¬ (97 : Int) ≤ (c.toNat : Int) := by omega
    go_enter Tryz.func64, Tryz.ntmps64
    go_wp2
    go_ret
    exact ⟨rfl, rfl⟩
  · have z1 : (65 : Int) ≤ (c.toNat : Int) := by omega
    have z2 : ¬ (c.toNat : Int) ≤ 90 := by omega
    have z3 : (97 : Int) ≤ (c.toNat : Int) := by omega
    have z4 : (c.toNat : Int) ≤ 122 := by omega
    go_enter Tryz.func64, Tryz.ntmps64
    go_wp2
    go_ret
    exact ⟨rfl, rfl⟩
  · have z1 : (65 : Int) ≤ (c.toNat : Int) := by omega
    have z2 : ¬ (c.toNat : Int) ≤ 90 := by omega
    have z3 : (97 : Int) ≤ (c.toNat : Int) := by omega
    have z4 : ¬ (c.toNat : Int) ≤ 122 := by omega
    go_enter Tryz.func64, Tryz.ntmps64
    go_wp2
    go_ret
    exact ⟨rfl, rfl⟩
end Go.Proofs.YtpaejkhaiifgdaaGreatDoor.S3

set_option linter.unusedVariables false
namespace Go.Proofs.YtpaejkhaiifgdaaGreatDoor.S3
open Go Go.Proofs Go.RowKit Go.Lib

set_option maxHeartbeats 4000000 in
set_option maxRecDepth 100000 in
theorem refValid_any (s : ByteArray) (w : World) : Calls Tryz.prog 44 #[.string s] w fun e w' => e = .returned (.bool (validC s.data.toList)) ∧ w = w' := by
  obtain ⟨ANS, hANS⟩ : ∃ ANS, validC s.data.toList = ANS := ⟨_, rfl⟩
  rw [hANS]
  by_cases h0 : 0 < s.size
  · have hz1 : ¬ (s.size : Int) < 1 := by omega
    have hz1d : decide ((s.size : Int) < 1) = false := decide_eq_false hz1
    by_cases h16 : 16 < s.size
    · have hA : ANS = false := by rw [← hANS]; exact valid_big h16
      have hz : (16 : Int) < (s.size : Int) := by omega
      have hzd : decide ((16 : Int) < (s.size : Int)) = true := decide_eq_true hz
      have HA := hid hA
      clear hANS hA
      go_enter Tryz.func44, Tryz.ntmps44
      go_wp2
      go_ret
      rw [HA.out]
      exact ⟨rfl, rfl⟩
    · have hz : ¬ (16 : Int) < (s.size : Int) := by omega
      have hzd : decide ((16 : Int) < (s.size : Int)) = false := decide_eq_false hz
      obtain ⟨x0, hx0⟩ : ∃ x, s[0]'h0 = x := ⟨_, rfl⟩
      rcases sgn_cases x0 with ⟨g1, _, hs0⟩ | ⟨g1, _, g2, _, hs0⟩ | ⟨g1, _, g2, _, hs0⟩
      · have hA : ANS = false := by rw [← hANS]; exact valid_sign h0 (by rw [hx0]; exact hs0)
        have HA := hid hA
        clear hANS hA hs0
        go_enter Tryz.func44, Tryz.ntmps44
        go_wp2
        go_ret
        rw [HA.out]
        exact ⟨rfl, rfl⟩
      · have hA : ANS = false := by rw [← hANS]; exact valid_sign h0 (by rw [hx0]; exact hs0)
        have HA := hid hA
        clear hANS hA hs0
        go_enter Tryz.func44, Tryz.ntmps44
        go_wp2
        go_ret
        rw [HA.out]
        exact ⟨rfl, rfl⟩
      · have hA : s.data.toList.all okC = true → ANS = true := fun h => by rw [← hANS]; exact valid_yes h0 (by omega) (by rw [hx0]; exact hs0) h
        have hB : s.data.toList.all okC = false → ANS = false := fun h => by rw [← hANS]; exact validC_no h
        have HA := hid hA
        have HB := hid hB
        clear hANS hA hB hs0
        go_enter Tryz.func44, Tryz.ntmps44
        go_wp2
        clear hx0 g1 g2
        go_loop [3] (fun i => ∃ k : Nat, k ≤ s.size ∧ i = .int .i64 (k : Int) ∧ Hid ((s.data.toList.take k).all okC = true)) (fun i => s.size - (RowKit.intOf i).toNat)
        case atStart => exact ⟨0, Nat.zero_le _, rfl, hid rfl⟩
        case round =>
          obtain ⟨k, hk, rfl, hall⟩ := hrel
          by_cases hlt : k < s.size
          · have hltz : (k : Int) < (s.size : Int) := by omega
            have hsn := all_snoc s k hlt
            have hbad := all_bad s k hlt
            have cL := letter_any (s[k]'hlt)
            have cD := digit_any (s[k]'hlt)
            obtain ⟨x, hx⟩ : ∃ x, s[k]'hlt = x := ⟨_, rfl⟩
            rw [hx] at hsn hbad cL cD
            have HSN := hid hsn
            have HBAD := hid hbad
            clear hsn hbad
            have hcs : (Hid (okC x = true) ∧ (dg x = true ∨ (dg x = false ∧ ltr x = true) ∨ (dg x = false ∧ ltr x = false ∧ sgn x = true))) ∨ (Hid (okC x = false) ∧ dg x = false ∧ ltr x = false ∧ sgn x = false) := by
              unfold okC
              cases h1 : ltr x <;> cases h2 : dg x <;> cases h3 : sgn x
              · exact .inr ⟨hid rfl, rfl, rfl, rfl⟩
              · exact .inl ⟨hid rfl, .inr (.inr ⟨rfl, rfl, rfl⟩)⟩
              · exact .inl ⟨hid rfl, .inl rfl⟩
              · exact .inl ⟨hid rfl, .inl rfl⟩
              · exact .inl ⟨hid rfl, .inr (.inl ⟨rfl, rfl⟩)⟩
              · exact .inl ⟨hid rfl, .inr (.inl ⟨rfl, rfl⟩)⟩
              · exact .inl ⟨hid rfl, .inl rfl⟩
              · exact .inl ⟨hid rfl, .inl rfl⟩
            rcases hcs with ⟨ho, h1 | ⟨h1, h2⟩ | ⟨h1, h2, h3⟩⟩ | ⟨ho, h1, h2, h3⟩
            · rw [h1] at cD
              clear h1 cL
              go_wp2_with (go_at_call 63; refine (cD _).mono ?_; rintro e w' ⟨rfl, rfl⟩)
              go_round
              case rel => exact ⟨k + 1, hlt, by go_num, by rw [HSN.out, hall.out, ho.out]; exact hid rfl⟩
              case measure => simp [RowKit.intOf]; omega
            · rw [h1] at cD
              rw [h2] at cL
              clear h1 h2
              go_wp2_with (first | (go_at_call 63; refine (cD _).mono ?_; rintro e w' ⟨rfl, rfl⟩) | (go_at_call 64; refine (cL _).mono ?_; rintro e w' ⟨rfl, rfl⟩))
              go_round
              case rel => exact ⟨k + 1, hlt, by go_num, by rw [HSN.out, hall.out, ho.out]; exact hid rfl⟩
              case measure => simp [RowKit.intOf]; omega
            · rw [h1] at cD
              rw [h2] at cL
              clear h1 h2
              rcases sgn_cases x with ⟨g1, g1', _⟩ | ⟨g1, g1', g2, g2', _⟩ | ⟨_, _, _, _, h⟩
              · clear h3
                go_wp2_with (first | (go_at_call 63; refine (cD _).mono ?_; rintro e w' ⟨rfl, rfl⟩) | (go_at_call 64; refine (cL _).mono ?_; rintro e w' ⟨rfl, rfl⟩))
                go_round
                case rel => exact ⟨k + 1, hlt, by go_num, by rw [HSN.out, hall.out, ho.out]; exact hid rfl⟩
                case measure => simp [RowKit.intOf]; omega
              · clear h3
                go_wp2_with (first | (go_at_call 63; refine (cD _).mono ?_; rintro e w' ⟨rfl, rfl⟩) | (go_at_call 64; refine (cL _).mono ?_; rintro e w' ⟨rfl, rfl⟩))
                go_round
                case rel => exact ⟨k + 1, hlt, by go_num, by rw [HSN.out, hall.out, ho.out]; exact hid rfl⟩
                case measure => simp [RowKit.intOf]; omega
              · rw [h3] at h; simp at h
            · rw [h1] at cD
              rw [h2] at cL
              clear h1 h2
              rcases sgn_cases x with ⟨_, _, h⟩ | ⟨_, _, _, _, h⟩ | ⟨g1, g1', g2, g2', _⟩
              · rw [h3] at h; simp at h
              · rw [h3] at h; simp at h
              · clear h3
                go_wp2_with (first | (go_at_call 63; refine (cD _).mono ?_; rintro e w' ⟨rfl, rfl⟩) | (go_at_call 64; refine (cL _).mono ?_; rintro e w' ⟨rfl, rfl⟩))
                go_ret
                rw [HB.out (HBAD.out ho.out)]
                exact ⟨rfl, rfl⟩
          · have hltz : ¬ (k : Int) < (s.size : Int) := by omega
            have hfull : Hid (s.data.toList.all okC = true) := by
              have := hall.out
              rw [List.take_of_length_le (by rw [← Lib.size_eq]; omega)] at this
              exact hid this
            go_wp2
            go_ret
            rw [HA.out hfull.out]
            exact ⟨rfl, rfl⟩
  · have hz : (s.size : Int) < 1 := by omega
    have hzd : decide ((s.size : Int) < 1) = true := decide_eq_true hz
    have hz' : s.size = 0 := by omega
    have hsz := hz'
    rw [Lib.size_eq] at hz'
    have hnil : s.data.toList = [] := List.eq_nil_of_length_eq_zero hz'
    have hA : ANS = false := by rw [← hANS, hnil]; rfl
    have HA := hid hA
    clear hz' hsz hnil hANS hA
    go_enter Tryz.func44, Tryz.ntmps44
    go_wp2
    go_ret
    rw [HA.out]
    exact ⟨rfl, rfl⟩
end Go.Proofs.YtpaejkhaiifgdaaGreatDoor.S3

set_option linter.unusedVariables false
namespace Go.Proofs.YtpaejkhaiifgdaaGreatDoor
open Go Go.Proofs Go.RowKit Go.Lib

/-- The five parts of a room, as they lie in memory. -/
structure Room5 where
  a1 : Option Addr
  c1 : Nat
  a2 : Option Addr
  c2 : Nat
end Go.Proofs.YtpaejkhaiifgdaaGreatDoor

set_option linter.unusedVariables false
set_option maxRecDepth 100000
namespace Go.Proofs.YtpaejkhaiifgdaaGreatDoor.S11
open Go Go.Proofs Go.ChangeShapes Go.WideShapes Go.ChangeAt Go.RowKit Go.Deep Go.Proofs.YtpaejkhaiifgdaaGreatDoor Go.Proofs.YtpaejkhaiifgdaaGreatDoor.S10

section
variable {H : Type} {enc : TypeId × Value → H} {P : Program}
end

theorem rowClasses : Tryz.prog.readableRec 24 = true ∧ 24 < Tryz.prog.types.size := ⟨by kernel_rfl, of_decide_eq_true (by kernel_rfl)⟩
theorem rowRecs : Tryz.prog.readableRec 23 = true ∧ 23 < Tryz.prog.types.size := ⟨by kernel_rfl, of_decide_eq_true (by kernel_rfl)⟩
theorem rowCurrs : Tryz.prog.readableRec 22 = true ∧ 22 < Tryz.prog.types.size := ⟨by kernel_rfl, of_decide_eq_true (by kernel_rfl)⟩
section
variable {H : Type} {enc : TypeId × Value → H} {w : World} {base : Nat} {sp : Nat → Bool} {held : Bool}
end
end Go.Proofs.YtpaejkhaiifgdaaGreatDoor.S11

set_option linter.unusedVariables false
namespace Go.Proofs.YtpaejkhaiifgdaaGreatDoor.S3
open Go Go.Proofs Go.RowKit Go.Lib

def aheadGo (f : Str) : Nat → List Str → Nat
  | i, [] => i
  | i, c :: r => if c = nthS f i then aheadGo f (i + 1) r else i
/-- How many codes of a list are a range, from its first one on. -/
def aheadM (l : List Str) : Nat := match l with | [] => 0 | f :: r => if hasL f = true then aheadGo f 1 r else 1
theorem aheadGo_facts (f : Str) : ∀ (r : List Str) (i : Nat), i ≤ aheadGo f i r ∧ aheadGo f i r ≤ i + r.length ∧ ∀ j, j < aheadGo f i r - i → r[j]? = some (nthS f (i + j))
  | [], i => ⟨by simp [aheadGo], by simp [aheadGo], fun j hj => by simp [aheadGo] at hj⟩
  | c :: r, i => by
    by_cases h : c = nthS f i
    · have e : aheadGo f i (c :: r) = aheadGo f (i + 1) r := if_pos h
      obtain ⟨h1, h2, h3⟩ := aheadGo_facts f r (i + 1)
      rw [e]
      refine ⟨by omega, by simp; omega, fun j hj => ?_⟩
      match j with
      | 0 => simp [h]
      | j + 1 =>
        have := h3 j (by omega)
        rw [List.getElem?_cons_succ, this, show i + 1 + j = i + (j + 1) by omega]
    · have e : aheadGo f i (c :: r) = i := if_neg h
      rw [e]
      exact ⟨Nat.le_refl _, by simp, fun j hj => by omega⟩
theorem ahead_pos (f : Str) (r : List Str) : 1 ≤ aheadM (f :: r) ∧ aheadM (f :: r) ≤ r.length + 1 := by
  unfold aheadM
  simp only
  split
  · have := aheadGo_facts f r 1; omega
  · omega
theorem ahead_has (f : Str) (r : List Str) (h : 2 ≤ aheadM (f :: r)) : hasL f = true := by
  unfold aheadM at h
  simp only at h
  split at h
  · assumption
  · omega
theorem ahead_nth (f : Str) (r : List Str) (j : Nat) (h : j + 1 < aheadM (f :: r)) : r[j]? = some (nthS f (j + 1)) := by
  have hh := ahead_has f r (by omega)
  unfold aheadM at h
  simp only [hh, if_true] at h
  have := (aheadGo_facts f r 1).2.2 j (by omega)
  rw [this, Nat.add_comm]
theorem pre_nth (f : Str) (d : Nat) : preS (nthS f d) = preS f := by
  unfold nthS
  exact pre_app _ _ (wr_dgs _ _) (fun q c h => pre_end f q c h)
theorem last_nth (f : Str) (d : Nat) : lastS (nthS f d) = wrS (numL f + d) (lastS f).length := by
  unfold nthS
  exact last_app _ _ (wr_dgs _ _) (fun q c h => pre_end f q c h)
theorem num_nth (f : Str) (d : Nat) : numL (nthS f d) = numL f + d := by
  unfold numL
  rw [last_nth, wr_num]
  rfl
theorem has_nth (f : Str) (d : Nat) : hasL (nthS f d) = true := by
  unfold hasL
  rw [last_nth]
  cases h : wrS (numL f + d) (lastS f).length with
  | nil => exact absurd h (wr_ne _ _)
  | cons c r => rfl
/-- The text of a range. -/
def rangeT (f : Str) (n : Nat) : Str := f ++ 46 :: 46 :: nthS f (n - 1)
/-- The parts of a list's text. -/
def joinP : Nat → List Str → List Str
  | 0, _ => []
  | _ + 1, [] => []
  | k + 1, f :: r => if 3 ≤ aheadM (f :: r) then rangeT f (aheadM (f :: r)) :: joinP k ((f :: r).drop (aheadM (f :: r))) else f :: joinP k r
/-- Parts with semicolons between. -/
def semi : List Str → Str
  | [] => []
  | [p] => p
  | p :: q :: r => p ++ 59 :: semi (q :: r)
/-- The text of a list of codes. -/
def joinM (l : List Str) : Str := semi (joinP l.length l)
theorem checkGo_valid : ∀ (r seen : List Str), checkGo seen r = 0 → ∀ c ∈ r, validC c = true
  | [], _, _, c, hc => by simp at hc
  | d :: r, seen, h, c, hc => by
    unfold checkGo at h
    split at h
    · simp at h
    · rename_i h1
      split at h
      · simp at h
      · rcases List.mem_cons.1 hc with rfl | hc
        · simpa using h1
        · exact checkGo_valid r _ h c hc
theorem check_valid {l : List Str} (h : checkM l = 0) : l.length ≤ 64 ∧ ∀ c ∈ l, validC c = true := by
  unfold checkM at h
  split at h
  · simp at h
  · exact ⟨by omega, checkGo_valid _ _ h⟩
end Go.Proofs.YtpaejkhaiifgdaaGreatDoor.S3

set_option linter.unusedVariables false
namespace Go.Proofs.YtpaejkhaiifgdaaGreatDoor.S11
open Go Go.Proofs Go.RowKit Go.Lib Go.Proofs.YtpaejkhaiifgdaaGreatDoor

/-- The first error of a curriculum alone. -/
def currM (x : CurrD) : Int :=
  if S3.validC x.1 = false then 10 else if x.2.length = 0 then 16 else if 8 < x.2.length then 2 else S3.checkM x.2
def goU : List Str → List CurrD → Int
  | _, [] => 0
  | seen, r :: rs => if currM r ≠ 0 then currM r else if r.1 ∈ seen then 11 else goU (seen ++ [r.1]) rs
/-- The first error of curricula. -/
def validU (l : List CurrD) : Int := if 16 < l.length then 2 else goU [] l
theorem goU_step (l : List CurrD) (i : Nat) (h : i < l.length) :
    goU (codesU (l.take i)) (l.drop i) = if currM l[i] ≠ 0 then currM l[i] else if l[i].1 ∈ codesU (l.take i) then 11 else goU (codesU (l.take (i + 1))) (l.drop (i + 1)) := by
  have e : codesU (l.take i ++ [l[i]]) = codesU (l.take i) ++ [l[i].1] := by unfold codesU; rw [List.map_append]; rfl
  rw [List.drop_eq_getElem_cons h, goU, List.take_succ_eq_append_getElem h, e]
def rowU (x : CurrD) : List Str := [x.1, S3.joinM x.2]
def writeU (l : List CurrD) : List (List Str) × Int := if validU l ≠ 0 then ([], validU l) else (l.map rowU, 0)
theorem goU_ok : ∀ (l : List CurrD) (seen : List Str), goU seen l = 0 → ∀ r ∈ l, currM r = 0
  | [], _, _, r, hr => by simp at hr
  | x :: xs, seen, h, r, hr => by
    unfold goU at h
    by_cases h1 : currM x = 0
    · rw [if_neg (by simpa using h1)] at h
      split at h
      · simp at h
      · rcases List.mem_cons.1 hr with rfl | hr
        · exact h1
        · exact goU_ok xs _ h r hr
    · rw [if_pos h1] at h
      exact absurd h h1
theorem validU_ok {l : List CurrD} (h : validU l = 0) : l.length ≤ 16 ∧ ∀ r ∈ l, currM r = 0 := by
  unfold validU at h
  split at h
  · simp at h
  · exact ⟨by omega, goU_ok l [] h⟩
theorem currM_all {x : CurrD} (h : currM x = 0) : S3.validC x.1 = true ∧ 0 < x.2.length ∧ x.2.length ≤ 8 ∧ S3.checkM x.2 = 0 := by
  unfold currM at h
  cases hv : S3.validC x.1 with
  | false => rw [if_pos hv] at h; simp at h
  | true =>
    rw [if_neg (by simp [hv])] at h
    by_cases h1 : x.2.length = 0
    · rw [if_pos h1] at h; simp at h
    · rw [if_neg h1] at h
      by_cases h2 : 8 < x.2.length
      · rw [if_pos h2] at h; simp at h
      · rw [if_neg h2] at h
        exact ⟨rfl, by omega, by omega, h⟩
theorem currM_code {x : CurrD} (h : currM x = 0) : S3.validC x.1 = true := (currM_all h).1
end Go.Proofs.YtpaejkhaiifgdaaGreatDoor.S11

set_option linter.unusedVariables false
namespace Go.Proofs.YtpaejkhaiifgdaaGreatDoor.S11
open Go Go.Proofs Go.RowKit Go.Lib Go.Proofs.YtpaejkhaiifgdaaGreatDoor

/-- The first place, -1 if there is none. -/
def idxG : List Str → Str → Nat → Int
  | [], _, _ => -1
  | x :: r, c, k => if x = c then (k : Int) else idxG r c (k + 1)
theorem idxG_spec : ∀ (l : List Str) (c : Str) (k : Nat), (c ∉ l ∧ idxG l c k = -1) ∨ ∃ j, ∃ hj : j < l.length, l[j] = c ∧ (∀ m, ∀ hm : m < j, l[m]'(by omega) ≠ c) ∧ idxG l c k = (k : Int) + j
  | [], c, k => .inl ⟨by simp, rfl⟩
  | x :: r, c, k => by
    unfold idxG
    by_cases h : x = c
    · rw [if_pos h]
      exact .inr ⟨0, by simp, h, fun m hm => by omega, by simp⟩
    · rw [if_neg h]
      rcases idxG_spec r c (k + 1) with ⟨h1, h2⟩ | ⟨j, hj, h1, h2, h3⟩
      · exact .inl ⟨by simp [Ne.symm h, h1], h2⟩
      · refine .inr ⟨j + 1, by simpa using hj, by simpa using h1, fun m hm => ?_, by rw [h3]; push_cast; omega⟩
        cases m with
        | zero => simpa using h
        | succ m => simpa using h2 m (by omega)
theorem idxG_pos (l : List Str) (c : Str) : (0 ≤ idxG l c 0) ↔ c ∈ l := by
  rcases idxG_spec l c 0 with ⟨h1, h2⟩ | ⟨j, hj, h1, _, h3⟩
  · rw [h2]; constructor
    · intro h; omega
    · intro h; exact absurd h h1
  · rw [h3]; constructor
    · intro _; rw [← h1]; exact List.getElem_mem hj
    · intro _; omega
theorem idxG_lt (l : List Str) (i : Nat) (hi : i < l.length) : (idxG l l[i] 0 < (i : Int)) ↔ l[i] ∈ l.take i := by
  rcases idxG_spec l l[i] 0 with ⟨h1, h2⟩ | ⟨j, hj, h1, h2, h3⟩
  · exact absurd (List.getElem_mem hi) h1
  · rw [h3]
    constructor
    · intro h
      have hji : j < i := by omega
      rw [← h1]
      exact List.mem_take_iff_getElem.2 ⟨j, by omega, rfl⟩
    · intro h
      obtain ⟨m, hm, he⟩ := List.mem_take_iff_getElem.1 h
      by_cases hjm : j ≤ m
      · omega
      · exact absurd he (h2 m (by omega))
theorem codesU_drop (l : List CurrD) (k : Nat) (h : k < l.length) : codesU (l.drop k) = l[k].1 :: codesU (l.drop (k + 1)) := by
  rw [List.drop_eq_getElem_cons h]; rfl

set_option maxHeartbeats 4000000 in
set_option maxRecDepth 100000 in
theorem rindex_any (A : Option Addr) (l : List CurrD) (c : Nat) (s : ByteArray) (w : World) (h : CurrsIn w (fun k => k < w.heap.size) A l) (hl63 : l.length ≤ 9223372036854775807) :
    Calls Tryz.prog 45 #[.slice A l.length c, .string s] w fun e w' => e = .returned (.int .i64 (idxG (codesU l) (lst s) 0)) ∧ w = w' := by
  obtain ⟨R, hR⟩ : ∃ R, idxG (codesU l) (lst s) 0 = R := ⟨_, rfl⟩
  rw [hR]
  have HR : Hid (idxG (codesU (l.drop 0)) (lst s) 0 = R) := hid hR
  have HH := hid h
  clear hR h
  go_enter Tryz.func45, Tryz.ntmps45
  go_wp2
  go_loop [5] (fun iv => ∃ k : Nat, iv = .int .i64 (k : Int) ∧ k ≤ l.length ∧ Hid (idxG (codesU (l.drop k)) (lst s) k = R)) (fun iv => l.length - (RowKit.intOf iv).toNat)
  case atStart => exact ⟨0, rfl, Nat.zero_le _, HR⟩
  case round =>
    obtain ⟨k, rfl, hk, hE⟩ := hrel
    by_cases hlt : k < l.length
    · have hltz : (k : Int) < (l.length : Int) := by omega
      have dk : decide (l.length ≤ k) = false := decide_eq_false (by omega)
      obtain ⟨fb, fo, q, rfl, hfb, hri, y0, y1⟩ := HH.out.at_ hlt
      have hst := hE.out
      rw [codesU_drop l k hlt] at hst
      unfold idxG at hst
      obtain ⟨Y, hY⟩ : ∃ Y, ba l[k].1 = Y := ⟨_, rfl⟩
      have hYl : lst Y = l[k].1 := by rw [← hY]; rfl
      rw [hY] at y0
      have ty : Y.toList = lst Y := Lib.toList_data Y
      have ts : s.toList = lst s := Lib.toList_data s
      rw [← hYl] at hst
      clear hri hY hYl
      by_cases he : lst Y = lst s
      · rw [if_pos he] at hst
        have b1 : (Y.toList == s.toList) = true := by rw [ty, ts, he]; simp
        have b2 : (Y.toList != s.toList) = false := by rw [ty, ts, he]; simp
        have HRR := hid hst.symm
        clear hst ty ts he
        go_wp2
        go_ret
        exact ⟨by rw [HRR.out]; rfl, rfl⟩
      · rw [if_neg he] at hst
        have b1 : (Y.toList == s.toList) = false := by rw [ty, ts]; simpa using he
        have b2 : (Y.toList != s.toList) = true := by rw [ty, ts]; simpa using he
        have HRR := hid hst
        clear hst ty ts he
        go_wp2
        go_round
        case rel => exact ⟨k + 1, by go_num, by omega, HRR⟩
        case measure => simp [RowKit.intOf]; omega
    · have hltz : ¬ (k : Int) < (l.length : Int) := by omega
      have hst := hE.out
      rw [List.drop_of_length_le (by omega)] at hst
      have HRR : Hid (R = -1) := hid hst.symm
      clear hst
      go_wp2
      go_ret
      exact ⟨by rw [HRR.out]; rfl, rfl⟩

end Go.Proofs.YtpaejkhaiifgdaaGreatDoor.S11

set_option linter.unusedVariables false
namespace Go.Proofs.YtpaejkhaiifgdaaGreatDoor.S3
open Go Go.Lib

/-- How often two dots occur, without overlaps. -/
def cntD : Str → Nat
  | [] => 0
  | [_] => 0
  | a :: b :: r => if a = 46 ∧ b = 46 then cntD r + 1 else cntD (b :: r)
theorem cntD_yes (r : Str) : cntD (46 :: 46 :: r) = cntD r + 1 := if_pos ⟨rfl, rfl⟩
theorem cntD_no {a b : UInt8} (h : ¬ (a = 46 ∧ b = 46)) (r : Str) : cntD (a :: b :: r) = cntD (b :: r) := if_neg h
theorem pre2 (a b : UInt8) (r : Str) : dots2.isPrefixOf (a :: b :: r) = decide (a = 46 ∧ b = 46) := by
  unfold dots2
  simp only [List.isPrefixOf, Bool.and_true]
  rw [Bool.eq_iff_iff]
  simp
  constructor
  · rintro ⟨h1, h2⟩; exact ⟨h1.symm, h2.symm⟩
  · rintro ⟨h1, h2⟩; exact ⟨h1.symm, h2.symm⟩
theorem index_cnt : ∀ (l : Str), 0 ≤ Lib.index l dots2 ↔ 0 < cntD l
  | [] => by simp [Lib.index, dots2, cntD]
  | [a] => by simp [Lib.index, dots2, cntD]
  | a :: b :: r => by
    have ih := index_cnt (b :: r)
    have hge := Lib.index_ge (b :: r) dots2
    unfold Lib.index
    rw [pre2]
    by_cases h : a = 46 ∧ b = 46
    · obtain ⟨rfl, rfl⟩ := h
      rw [cntD_yes]
      simp
    · rw [cntD_no h, decide_eq_false h, if_neg (by simp)]
      by_cases h1 : Lib.index (b :: r) dots2 = -1
      · rw [h1] at ih ⊢
        simpa using ih
      · rw [if_neg (by simpa using h1)]
        rw [← ih]
        omega
theorem contains_cnt (l : Str) : Lib.contains l dots2 = decide (0 < cntD l) := by
  unfold Lib.contains
  exact decide_eq_decide.2 (index_cnt l)
theorem occ2 (l : Str) (i : Nat) (a b : UInt8) (ha : l[i]? = some a) (hb : l[i + 1]? = some b) : Lib.occAt l dots2 i = decide (a = 46 ∧ b = 46) ∧ l.drop i = a :: b :: l.drop (i + 2) := by
  have hi : i < l.length := (List.getElem?_eq_some_iff.1 ha).1
  have hj : i + 1 < l.length := (List.getElem?_eq_some_iff.1 hb).1
  have e : l.drop i = a :: b :: l.drop (i + 2) := by
    rw [List.drop_eq_getElem_cons hi, List.drop_eq_getElem_cons hj]
    rw [List.getElem?_eq_getElem hi] at ha
    rw [List.getElem?_eq_getElem hj] at hb
    injection ha with ha
    injection hb with hb
    rw [ha, hb]
  refine ⟨?_, e⟩
  unfold Lib.occAt
  rw [e, pre2]
/-- What the reference's dots says of a part. -/
structure DotsAt (l : Str) (n : Int) (a : Int) : Prop where
  n : n = (cntD l : Int)
  no : cntD l = 0 → isP l = false
  yes : 0 < cntD l → isP l = true ∧ ∃ k : Nat, a = (k : Int) ∧ befP l = l.take k ∧ aftP l = l.drop (k + 2) ∧ k + 2 ≤ l.length ∧ Lib.contains (aftP l) dots2 = decide (1 < cntD l)
/-- Between two rounds of dots. -/
structure DotsIn (l : Str) (n : Nat) (a : Int) (i : Nat) : Prop where
  cnt : n + cntD (l.drop i) = cntD l
  zero : n = 0 → a = -1 ∧ Lib.NoOcc l dots2 i
  pos : 0 < n → ∃ k : Nat, a = (k : Int) ∧ Lib.index l dots2 = (k : Int) ∧ k + 2 ≤ l.length ∧ cntD l = cntD (l.drop (k + 2)) + 1
theorem DotsIn.start (l : Str) : DotsIn l 0 (-1) 0 := ⟨by simp, fun _ => ⟨rfl, Lib.NoOcc.zero _ _⟩, fun h => by omega⟩
theorem DotsIn.hit {l : Str} {n : Nat} {a : Int} {i : Nat} (h : DotsIn l n a i) (ha : l[i]? = some 46) (hb : l[i + 1]? = some 46) : DotsIn l (n + 1) (if n = 0 then (i : Int) else a) (i + 2) := by
  obtain ⟨ho, hd⟩ := occ2 l i 46 46 ha hb
  have hc := h.cnt
  rw [hd, cntD_yes] at hc
  have hj : i + 1 < l.length := (List.getElem?_eq_some_iff.1 hb).1
  refine ⟨by omega, fun h => by omega, fun _ => ?_⟩
  by_cases hn : n = 0
  · obtain ⟨_, hno⟩ := h.zero hn
    refine ⟨i, if_pos hn, Lib.index_hit hno (by omega) (by rw [ho]; simp), by omega, by omega⟩
  · obtain ⟨k, h1, h2, h3, h4⟩ := h.pos (by omega)
    exact ⟨k, by rw [if_neg hn]; exact h1, h2, h3, h4⟩
theorem DotsIn.miss {l : Str} {n : Nat} {a : Int} {i : Nat} (h : DotsIn l n a i) {x y : UInt8} (ha : l[i]? = some x) (hb : l[i + 1]? = some y) (hne : ¬ (x = 46 ∧ y = 46)) : DotsIn l n a (i + 1) := by
  obtain ⟨ho, hd⟩ := occ2 l i x y ha hb
  have hj : i + 1 < l.length := (List.getElem?_eq_some_iff.1 hb).1
  have e : l.drop (i + 1) = y :: l.drop (i + 2) := by
    rw [List.drop_eq_getElem_cons hj]
    rw [List.getElem?_eq_getElem hj] at hb
    injection hb with hb
    rw [hb]
  have hc := h.cnt
  rw [hd, cntD_no hne, ← e] at hc
  refine ⟨hc, fun hn => ?_, h.pos⟩
  obtain ⟨h1, h2⟩ := h.zero hn
  exact ⟨h1, h2.succ (by rw [ho]; simpa using hne)⟩
theorem DotsIn.done {l : Str} {n : Nat} {a : Int} {i : Nat} (h : DotsIn l n a i) (hi : l.length ≤ i + 1) : DotsAt l (n : Int) a := by
  have hz : cntD (l.drop i) = 0 := by
    have hl : (l.drop i).length ≤ 1 := by simp; omega
    match hm : l.drop i, hl with
    | [], _ => rfl
    | [x], _ => rfl
    | x :: y :: r, hl => simp at hl
  have hc := h.cnt
  rw [hz, Nat.add_zero] at hc
  refine ⟨by omega, fun h0 => ?_, fun h0 => ?_⟩
  · unfold isP Lib.cut
    rw [if_neg (by rw [index_cnt]; omega)]
  · obtain ⟨k, h1, h2, h3, h4⟩ := h.pos (by omega)
    have hcut : Lib.cut l dots2 = (l.take k, l.drop (k + 2), true) := by
      unfold Lib.cut
      rw [if_pos (by omega), h2]
      rfl
    refine ⟨by unfold isP; rw [hcut], k, h1, by unfold befP; rw [hcut], by unfold aftP; rw [hcut], h3, ?_⟩
    have : aftP l = l.drop (k + 2) := by unfold aftP; rw [hcut]
    rw [this, contains_cnt]
    exact decide_eq_decide.2 (by omega)

/-! ### the codes of a range are codes -/
theorem dec_mono2 : ∀ (k m : Nat), m ≤ k → (decDigits m).length ≤ (decDigits k).length := fun k => by
  induction k using Nat.strongRecOn with
  | ind k ih =>
    intro m hm
    by_cases hk : k < 10
    · rw [dec_small hk, dec_small (show m < 10 by omega)]
      simp
    · by_cases hm' : m < 10
      · rw [dec_small hm']
        have := dec_pos k
        simpa using this
      · obtain ⟨a, b, ha, hb, rfl⟩ : ∃ a b, 1 ≤ a ∧ b < 10 ∧ k = 10 * a + b := ⟨k / 10, k % 10, by omega, by omega, by omega⟩
        obtain ⟨c, d, hc, hd, rfl⟩ : ∃ c d, 1 ≤ c ∧ d < 10 ∧ m = 10 * c + d := ⟨m / 10, m % 10, by omega, by omega, by omega⟩
        rw [dec_step a b ha hb, dec_step c d hc hd, List.length_append, List.length_append]
        have := ih a (by omega) c (by omega)
        simpa using this
theorem dg_ok2 {c : UInt8} (h : dg c = true) : okC c = true ∧ sgn c = false := by
  have hv := dg_val h
  refine ⟨by unfold okC; rw [h]; simp, ?_⟩
  unfold sgn
  simp
  omega
theorem nth_valid {a b : Str} {n j : Nat} (ha : validC a = true) (hb : validC b = true) (hn : rangeN a b = n) (hj : j < n) : validC (nthS a j) = true := by
  unfold rangeN at hn
  split at hn
  · rename_i hr
    obtain ⟨h1, h2, h3, h4⟩ := hr
    have hbl := validC_len hb
    have hsp := pre_split a
    have hne := wr_ne (numL a + j) (lastS a).length
    have hdg := wr_dgs (numL a + j) (lastS a).length
    have hlen : (nthS a j).length ≤ 16 := by
      rw [← h4, List.length_append, wr_len] at hbl
      unfold nthS
      rw [List.length_append, wr_len]
      have := dec_mono2 (numL b) (numL a + j) (by omega)
      omega
    have hall : (nthS a j).all okC = true := by
      rw [List.all_eq_true]
      intro c hc
      unfold nthS at hc
      rcases List.mem_append.1 hc with hc | hc
      · have hca : c ∈ a := by rw [← hsp]; exact List.mem_append_left _ hc
        cases a with
        | nil => cases hca
        | cons x r =>
          unfold validC at ha
          simp only [Bool.and_eq_true] at ha
          exact List.all_eq_true.1 ha.2 c hca
      · exact (dg_ok2 (hdg c hc)).1
    cases hp : preS a with
    | nil =>
      have e : nthS a j = wrS (numL a + j) (lastS a).length := by unfold nthS; rw [hp]; rfl
      rw [e] at hlen hall ⊢
      cases hw : wrS (numL a + j) (lastS a).length with
      | nil => exact absurd hw hne
      | cons c r =>
        rw [hw] at hlen hall hdg
        have hs := (dg_ok2 (hdg c (by simp))).2
        unfold validC
        simp only [hs, hall, Bool.not_false, Bool.and_true, decide_eq_true_eq]
        exact hlen
    | cons c r =>
      have e : nthS a j = c :: (r ++ wrS (numL a + j) (lastS a).length) := by unfold nthS; rw [hp]; rfl
      have hac : a = c :: (r ++ lastS a) := by
        conv => lhs; rw [← hsp]
        rw [hp]
        rfl
      have hs : sgn c = false := by
        rw [hac] at ha
        unfold validC at ha
        simp only [Bool.and_eq_true, Bool.not_eq_true'] at ha
        exact ha.1.2
      rw [e] at hlen hall ⊢
      unfold validC
      simp only [hs, hall, Bool.not_false, Bool.and_true, decide_eq_true_eq]
      exact hlen
  · omega
end Go.Proofs.YtpaejkhaiifgdaaGreatDoor.S3

