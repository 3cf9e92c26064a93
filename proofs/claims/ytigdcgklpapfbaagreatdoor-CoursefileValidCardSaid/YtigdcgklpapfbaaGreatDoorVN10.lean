/-
  Letters, digits, signs, and whether a string is a code: the program's functions and the reference's. Conditions: none.
  Whether a string is a code: the program's Valid and the reference's. Conditions: none.
  Whether a string is a code: the reference's Valid. Conditions: none.
  The first element of a string: the program's cutElement with the function value that tells where an element ends. Conditions: the string is not empty and fits into memory.
  Lists of strings in memory. No program beyond the types' facts, no conditions.
  Times and rooms in memory: slices of structs that came in, or that the call made. No program beyond the types' facts.
  Numbers with a width, and a code's last number: plain mathematics. No program, no conditions.
-/
import Derived.Test.YtigdcgklpapfbaaGreatDoorVN01
import Derived.Test.YtigdcgklpapfbaaGreatDoorVN09
import Derived.Lib.Bytealg
import Derived.Test.YtigdcgklpapfbaaGreatDoorProg
import Derived.WalkKit
import Derived.WalkSpells
import Derived.WalkLawsBesides
import Derived.Lib.Hide
import Derived.Deep.QuietTactic
import Derived.BigQuiet
import Derived.Laws.Rows
import Derived.OwnWalk
import Derived.Lib.BufferWrite
import Derived.Lib.UnsafeStr
import Derived.Laws.IdiomStrings
import Derived.Laws.BytesArg
import Derived.Laws.BytesString
import Derived.Laws.OwnMore
import Derived.Lib.IndexLaws
import Derived.Lib.ItoaNum
import Derived.Lib.Atoi
import Derived.Lib.SlTrimSet
set_option linter.unusedVariables false
namespace Go.Proofs.YtigdcgklpapfbaaGreatDoor.S3
open Go Go.Proofs Go.RowKit Go.Lib

def ltr (c : UInt8) : Bool := (decide (65 ≤ c.toNat) && decide (c.toNat ≤ 90)) || (decide (97 ≤ c.toNat) && decide (c.toNat ≤ 122))
def sgn (c : UInt8) : Bool := c.toNat == 95 || c.toNat == 45
def okC (c : UInt8) : Bool := ltr c || dg c || sgn c
/-- A code. -/
def validC (s : Str) : Bool := match s with | [] => false | c :: _ => decide (s.length ≤ 16) && !sgn c && s.all okC
set_option maxHeartbeats 1000000 in
theorem isDigit_any (c : UInt8) (w : World) : Calls Tryz.prog 109 #[.int .u8 (c.toNat : Int)] w fun e w' => e = .returned (.bool (dg c)) ∧ w = w' := by
  unfold dg
  rcases (show c.toNat < 48 ∨ (48 ≤ c.toNat ∧ c.toNat ≤ 57) ∨ 57 < c.toNat by omega) with h | h | h
  · have z1 : ¬ (48 : Int) ≤ (c.toNat : Int) := by omega
    rw [show (decide (48 ≤ c.toNat) && decide (c.toNat ≤ 57)) = false by simp; omega]
    go_enter Tryz.func109, Tryz.ntmps109
    go_wp2
    go_ret
    exact ⟨rfl, rfl⟩
  · have z1 : (48 : Int) ≤ (c.toNat : Int) := by omega
    have z2 : (c.toNat : Int) ≤ 57 := by omega
    rw [show (decide (48 ≤ c.toNat) && decide (c.toNat ≤ 57)) = true by simp; omega]
    go_enter Tryz.func109, Tryz.ntmps109
    go_wp2
    go_ret
    exact ⟨rfl, rfl⟩
  · have z1 : (48 : Int) ≤ (c.toNat : Int) := by omega
    have z2 : ¬ (c.toNat : Int) ≤ 57 := by omega
    rw [show (decide (48 ≤ c.toNat) && decide (c.toNat ≤ 57)) = false by simp; omega]
    go_enter Tryz.func109, Tryz.ntmps109
    go_wp2
    go_ret
    exact ⟨rfl, rfl⟩
set_option maxHeartbeats 1000000 in
theorem digit_any (c : UInt8) (w : World) : Calls Tryz.prog 101 #[.int .u8 (c.toNat : Int)] w fun e w' => e = .returned (.bool (dg c)) ∧ w = w' := by
  unfold dg
  rcases (show c.toNat < 48 ∨ (48 ≤ c.toNat ∧ c.toNat ≤ 57) ∨ 57 < c.toNat by omega) with h | h | h
  · have z1 : ¬ (48 : Int) ≤ (c.toNat : Int) := by omega
    rw [show (decide (48 ≤ c.toNat) && decide (c.toNat ≤ 57)) = false by simp; omega]
    go_enter Tryz.func101, Tryz.ntmps101
    go_wp2
    go_ret
    exact ⟨rfl, rfl⟩
  · have z1 : (48 : Int) ≤ (c.toNat : Int) := by omega
    have z2 : (c.toNat : Int) ≤ 57 := by omega
    rw [show (decide (48 ≤ c.toNat) && decide (c.toNat ≤ 57)) = true by simp; omega]
    go_enter Tryz.func101, Tryz.ntmps101
    go_wp2
    go_ret
    exact ⟨rfl, rfl⟩
  · have z1 : (48 : Int) ≤ (c.toNat : Int) := by omega
    have z2 : ¬ (c.toNat : Int) ≤ 57 := by omega
    rw [show (decide (48 ≤ c.toNat) && decide (c.toNat ≤ 57)) = false by simp; omega]
    go_enter Tryz.func101, Tryz.ntmps101
    go_wp2
    go_ret
    exact ⟨rfl, rfl⟩
theorem ltr_cases (c : UInt8) : (c.toNat < 65 ∧ ltr c = false) ∨ ((65 ≤ c.toNat ∧ c.toNat ≤ 90) ∧ ltr c = true) ∨ ((90 < c.toNat ∧ c.toNat < 97) ∧ ltr c = false) ∨ ((97 ≤ c.toNat ∧ c.toNat ≤ 122) ∧ ltr c = true) ∨ (122 < c.toNat ∧ ltr c = false) := by
  unfold ltr
  rcases (show c.toNat < 65 ∨ (65 ≤ c.toNat ∧ c.toNat ≤ 90) ∨ (90 < c.toNat ∧ c.toNat < 97) ∨ (97 ≤ c.toNat ∧ c.toNat ≤ 122) ∨ 122 < c.toNat by omega) with h | h | h | h | h
  · exact .inl ⟨h, by simp; omega⟩
  · exact .inr (.inl ⟨h, by simp; omega⟩)
  · exact .inr (.inr (.inl ⟨h, by simp; omega⟩))
  · exact .inr (.inr (.inr (.inl ⟨h, by simp; omega⟩)))
  · exact .inr (.inr (.inr (.inr ⟨h, by simp; omega⟩)))
set_option maxHeartbeats 1000000 in
theorem isLetter_any (c : UInt8) (w : World) : Calls Tryz.prog 108 #[.int .u8 (c.toNat : Int)] w fun e w' => e = .returned (.bool (ltr c)) ∧ w = w' := by
  rcases ltr_cases c with ⟨h, e⟩ | ⟨h, e⟩ | ⟨h, e⟩ | ⟨h, e⟩ | ⟨h, e⟩ <;> rw [e] <;> clear e
  · have z1 : ¬ (65 : Int) ≤ (c.toNat : Int) := by omega
    have z3 : ¬ (97 : Int) ≤ (c.toNat : Int) := by omega
    go_enter Tryz.func108, Tryz.ntmps108
    go_wp2
    go_ret
    exact ⟨rfl, rfl⟩
  · have z1 : (65 : Int) ≤ (c.toNat : Int) := by omega
    have z2 : (c.toNat : Int) ≤ 90 := by omega
    go_enter Tryz.func108, Tryz.ntmps108
    go_wp2
    go_ret
    exact ⟨rfl, rfl⟩
  · have z1 : (65 : Int) ≤ (c.toNat : Int) := by omega
    have z2 : ¬ (c.toNat : Int) ≤ 90 := by omega
    have z3 : ¬ (97 : Int) ≤ (c.toNat : Int) := by omega
    go_enter Tryz.func108, Tryz.ntmps108
    go_wp2
    go_ret
    exact ⟨rfl, rfl⟩
  · have z1 : (65 : Int) ≤ (c.toNat : Int) := by omega
    have z2 : ¬ (c.toNat : Int) ≤ 90 := by omega
    have z3 : (97 : Int) ≤ (c.toNat : Int) := by omega
    have z4 : (c.toNat : Int) ≤ 122 := by omega
    go_enter Tryz.func108, Tryz.ntmps108
    go_wp2
    go_ret
    exact ⟨rfl, rfl⟩
  · have z1 : (65 : Int) ≤ (c.toNat : Int) := by omega
    have z2 : ¬ (c.toNat : Int) ≤ 90 := by omega
    have z3 : (97 : Int) ≤ (c.toNat : Int) := by omega
    have z4 : ¬ (c.toNat : Int) ≤ 122 := by omega
    go_enter Tryz.func108, Tryz.ntmps108
    go_wp2
    go_ret
    exact ⟨rfl, rfl⟩
set_option maxHeartbeats 1000000 in
theorem letter_any (c : UInt8) (w : World) : Calls Tryz.prog 102 #[.int .u8 (c.toNat : Int)] w fun e w' => e = .returned (.bool (ltr c)) ∧ w = w' := by
  rcases ltr_cases c with ⟨h, e⟩ | ⟨h, e⟩ | ⟨h, e⟩ | ⟨h, e⟩ | ⟨h, e⟩ <;> rw [e] <;> clear e
  · have z1 : ¬ (65 : Int) ≤ (c.toNat : Int) := by omega
    have z3 : ¬ (97 : Int) ≤ (c.toNat : Int) := by omega
    go_enter Tryz.func102, Tryz.ntmps102
    go_wp2
    go_ret
    exact ⟨rfl, rfl⟩
  · have z1 : (65 : Int) ≤ (c.toNat : Int) := by omega
    have z2 : (c.toNat : Int) ≤ 90 := by omega
    go_enter Tryz.func102, Tryz.ntmps102
    go_wp2
    go_ret
    exact ⟨rfl, rfl⟩
  · have z1 : (65 : Int) ≤ (c.toNat : Int) := by omega
    have z2 : ¬ (c.toNat : Int) ≤ 90 := by omega
    have z3 : ¬ (97 : Int) ≤ (c.toNat : Int) := by omega
    go_enter Tryz.func102, Tryz.ntmps102
    go_wp2
    go_ret
    exact ⟨rfl, rfl⟩
  · have z1 : (65 : Int) ≤ (c.toNat : Int) := by omega
    have z2 : ¬ (c.toNat : Int) ≤ 90 := by omega
    have z3 : (97 : Int) ≤ (c.toNat : Int) := by omega
    have z4 : (c.toNat : Int) ≤ 122 := by omega
    go_enter Tryz.func102, Tryz.ntmps102
    go_wp2
    go_ret
    exact ⟨rfl, rfl⟩
  · have z1 : (65 : Int) ≤ (c.toNat : Int) := by omega
    have z2 : ¬ (c.toNat : Int) ≤ 90 := by omega
    have z3 : (97 : Int) ≤ (c.toNat : Int) := by omega
    have z4 : ¬ (c.toNat : Int) ≤ 122 := by omega
    go_enter Tryz.func102, Tryz.ntmps102
    go_wp2
    go_ret
    exact ⟨rfl, rfl⟩
theorem sgn_cases (c : UInt8) : (((c.toNat : Int) == 95) = true ∧ ((c.toNat : Int) != 95) = false ∧ sgn c = true) ∨ (((c.toNat : Int) == 95) = false ∧ ((c.toNat : Int) != 95) = true ∧ ((c.toNat : Int) == 45) = true ∧ ((c.toNat : Int) != 45) = false ∧ sgn c = true) ∨ (((c.toNat : Int) == 95) = false ∧ ((c.toNat : Int) != 95) = true ∧ ((c.toNat : Int) == 45) = false ∧ ((c.toNat : Int) != 45) = true ∧ sgn c = false) := by
  unfold sgn
  rcases (show c.toNat = 95 ∨ c.toNat = 45 ∨ (c.toNat ≠ 95 ∧ c.toNat ≠ 45) by omega) with h | h | h
  · exact .inl (by rw [h]; decide)
  · exact .inr (.inl (by rw [h]; decide))
  · refine .inr (.inr ⟨?_, ?_, ?_, ?_, ?_⟩) <;> simp <;> omega
set_option maxHeartbeats 1000000 in
theorem isSign_any (c : UInt8) (w : World) : Calls Tryz.prog 107 #[.int .u8 (c.toNat : Int)] w fun e w' => e = .returned (.bool (sgn c)) ∧ w = w' := by
  rcases sgn_cases c with ⟨h, _, e⟩ | ⟨h1, _, h2, _, e⟩ | ⟨h1, _, h2, _, e⟩ <;> rw [e] <;> clear e
  all_goals
    go_enter Tryz.func107, Tryz.ntmps107
    go_wp2
    go_ret
    exact ⟨rfl, rfl⟩

theorem all_snoc (s : ByteArray) (k : Nat) (h : k < s.size) : (s.data.toList.take (k + 1)).all okC = ((s.data.toList.take k).all okC && okC s[k]) := by
  rw [List.take_succ_eq_append_getElem (by simpa using h), List.all_append]
  simp
  rfl
theorem all_bad (s : ByteArray) (k : Nat) (h : k < s.size) (hb : okC s[k] = false) : s.data.toList.all okC = false := by
  rw [List.all_eq_false]
  refine ⟨s[k], ?_, by simp [hb]⟩
  exact Array.mem_toList_iff.2 (Array.getElem_mem _)
theorem validC_no {s : ByteArray} (h : s.data.toList.all okC = false) : validC s.data.toList = false := by
  unfold validC
  split
  · rfl
  · rw [h, Bool.and_false]
theorem valid_big {s : ByteArray} (h : 16 < s.size) : validC s.data.toList = false := by
  rw [Lib.size_eq] at h
  unfold validC
  split
  · rfl
  · rw [decide_eq_false (by omega)]; rfl
theorem valid_sign {s : ByteArray} (h0 : 0 < s.size) (h : sgn s[0] = true) : validC s.data.toList = false := by
  unfold validC
  split
  · rfl
  · rename_i c r hs
    have : s[0] = c := by
      have : s.data.toList[0]? = some c := by rw [hs]; rfl
      rw [Lib.size_eq] at h0
      rw [List.getElem?_eq_getElem h0] at this
      exact Option.some.inj this
    rw [this] at h
    rw [h]
    simp
theorem valid_yes {s : ByteArray} (h0 : 0 < s.size) (h16 : s.size ≤ 16) (h : sgn s[0] = false) (ha : s.data.toList.all okC = true) : validC s.data.toList = true := by
  rw [Lib.size_eq] at h16
  unfold validC
  split
  · rename_i hs; rw [Lib.size_eq, hs] at h0; simp at h0
  · rename_i c r hs
    have : s[0] = c := by
      have : s.data.toList[0]? = some c := by rw [hs]; rfl
      rw [Lib.size_eq] at h0
      rw [List.getElem?_eq_getElem h0] at this
      exact Option.some.inj this
    rw [this] at h
    rw [h, ha, decide_eq_true h16]
    rfl
end Go.Proofs.YtigdcgklpapfbaaGreatDoor.S3

set_option linter.unusedVariables false
namespace Go.Proofs.YtigdcgklpapfbaaGreatDoor.S3
open Go Go.Proofs Go.RowKit Go.Lib

theorem okC_cases (x : UInt8) : (ltr x = true ∧ Hid (okC x = true)) ∨ (ltr x = false ∧ dg x = true ∧ Hid (okC x = true)) ∨ (ltr x = false ∧ dg x = false ∧ sgn x = true ∧ Hid (okC x = true)) ∨ (ltr x = false ∧ dg x = false ∧ sgn x = false ∧ Hid (okC x = false)) := by
  unfold okC
  cases h1 : ltr x
  · cases h2 : dg x
    · cases h3 : sgn x
      · exact .inr (.inr (.inr ⟨rfl, rfl, rfl, hid rfl⟩))
      · exact .inr (.inr (.inl ⟨rfl, rfl, rfl, hid rfl⟩))
    · exact .inr (.inl ⟨rfl, rfl, hid rfl⟩)
  · exact .inl ⟨rfl, hid rfl⟩

set_option maxHeartbeats 4000000 in
set_option maxRecDepth 100000 in
theorem valid_any (s : ByteArray) (w : World) : Calls Tryz.prog 75 #[.string s] w fun e w' => e = .returned (.bool (validC s.data.toList)) ∧ w = w' := by
  obtain ⟨ANS, hANS⟩ : ∃ ANS, validC s.data.toList = ANS := ⟨_, rfl⟩
  rw [hANS]
  by_cases h0 : 0 < s.size
  · have hne : s.data.toList ≠ [] := fun e => by rw [Lib.size_eq, e] at h0; simp at h0
    have t1 : (s.toList == []) = false := by rw [Lib.toList_data]; simpa using hne
    have t2 : (!s.toList.isEmpty) = true := by rw [Lib.toList_data]; simpa using hne
    by_cases h16 : 16 < s.size
    · have hA : ANS = false := by rw [← hANS]; exact valid_big h16
      have hz : (16 : Int) < (s.size : Int) := by omega
      have hzd : decide ((16 : Int) < (s.size : Int)) = true := decide_eq_true hz
      have HA := hid hA
      clear hne hANS hA
      go_enter Tryz.func75, Tryz.ntmps75
      go_wp2
      go_ret
      rw [HA.out]
      exact ⟨rfl, rfl⟩
    · have hz : ¬ (16 : Int) < (s.size : Int) := by omega
      have hzd : decide ((16 : Int) < (s.size : Int)) = false := decide_eq_false hz
      have cS := isSign_any (s[0]'h0)
      cases hs0 : sgn (s[0]'h0) with
      | true =>
        have hA : ANS = false := by rw [← hANS]; exact valid_sign h0 hs0
        have HA := hid hA
        rw [hs0] at cS
        obtain ⟨x, hx⟩ : ∃ x, s[0]'h0 = x := ⟨_, rfl⟩
        rw [hx] at cS
        clear hne hANS hA hs0
        go_enter Tryz.func75, Tryz.ntmps75
        go_wp2_with (go_at_call 107; refine (cS _).mono ?_; rintro e w' ⟨rfl, rfl⟩)
        go_ret
        rw [HA.out]
        exact ⟨rfl, rfl⟩
      | false =>
        rw [hs0] at cS
        have hA : s.data.toList.all okC = true → ANS = true := fun h => by rw [← hANS]; exact valid_yes h0 (by omega) hs0 h
        have hB : s.data.toList.all okC = false → ANS = false := fun h => by rw [← hANS]; exact validC_no h
        have HA := hid hA
        have HB := hid hB
        have CS := hid cS
        obtain ⟨x0, hx0⟩ : ∃ x, s[0]'h0 = x := ⟨_, rfl⟩
        rw [hx0] at CS
        clear hne hANS hA hB hs0 cS
        have cS := CS.out
        go_enter Tryz.func75, Tryz.ntmps75
        go_wp2_with (go_at_call 107; refine (cS _).mono ?_; rintro e w' ⟨rfl, rfl⟩)
        clear cS CS hx0
        go_loop [3, 18] (fun _ i => ∃ k : Nat, k ≤ s.size ∧ i = .int .i64 (k : Int) ∧ Hid ((s.data.toList.take k).all okC = true)) (fun _ i => s.size - (RowKit.intOf i).toNat)
        case atStart => exact ⟨0, Nat.zero_le _, rfl, hid rfl⟩
        case round =>
          obtain ⟨k, hk, rfl, hall⟩ := hrel
          by_cases hlt : k < s.size
          · have hltz : (k : Int) < (s.size : Int) := by omega
            have hsn := all_snoc s k hlt
            have hbad := all_bad s k hlt
            have cL := isLetter_any (s[k]'hlt)
            have cD := isDigit_any (s[k]'hlt)
            have cG := isSign_any (s[k]'hlt)
            obtain ⟨x, hx⟩ : ∃ x, s[k]'hlt = x := ⟨_, rfl⟩
            rw [hx] at hsn hbad cL cD cG
            have HSN := hid hsn
            have HBAD := hid hbad
            clear hsn hbad
            rcases okC_cases x with ⟨h1, ho⟩ | ⟨h1, h2, ho⟩ | ⟨h1, h2, h3, ho⟩ | ⟨h1, h2, h3, ho⟩
            · rw [h1] at cL
              clear h1 cD cG
              go_wp2_with (go_at_call 108; refine (cL _).mono ?_; rintro e w' ⟨rfl, rfl⟩)
              go_round
              case rel => exact ⟨k + 1, hlt, by go_num, by rw [HSN.out, hall.out, ho.out]; exact hid rfl⟩
              case measure => simp [RowKit.intOf]; omega
            · rw [h1] at cL
              rw [h2] at cD
              clear h1 h2 cG
              go_wp2_with (first | (go_at_call 108; refine (cL _).mono ?_; rintro e w' ⟨rfl, rfl⟩) | (go_at_call 109; refine (cD _).mono ?_; rintro e w' ⟨rfl, rfl⟩))
              go_round
              case rel => exact ⟨k + 1, hlt, by go_num, by rw [HSN.out, hall.out, ho.out]; exact hid rfl⟩
              case measure => simp [RowKit.intOf]; omega
            · rw [h1] at cL
              rw [h2] at cD
              rw [h3] at cG
              clear h1 h2 h3
              go_wp2_with (first | (go_at_call 108; refine (cL _).mono ?_; rintro e w' ⟨rfl, rfl⟩) | (go_at_call 109; refine (cD _).mono ?_; rintro e w' ⟨rfl, rfl⟩) | (go_at_call 107; refine (cG _).mono ?_; rintro e w' ⟨rfl, rfl⟩))
              go_round
              case rel => exact ⟨k + 1, hlt, by go_num, by rw [HSN.out, hall.out, ho.out]; exact hid rfl⟩
              case measure => simp [RowKit.intOf]; omega
            · rw [h1] at cL
              rw [h2] at cD
              rw [h3] at cG
              clear h1 h2 h3
              go_wp2_with (first | (go_at_call 108; refine (cL _).mono ?_; rintro e w' ⟨rfl, rfl⟩) | (go_at_call 109; refine (cD _).mono ?_; rintro e w' ⟨rfl, rfl⟩) | (go_at_call 107; refine (cG _).mono ?_; rintro e w' ⟨rfl, rfl⟩))
              go_ret
              rw [HB.out (HBAD.out ho.out)]
              exact ⟨rfl, rfl⟩
          · have hltz : ¬ (k : Int) < (s.size : Int) := by omega
            have hfull : Hid (s.data.toList.all okC = true) := by
              have := hall.out
              rw [List.take_of_length_le (by rw [← Lib.size_eq]; omega)] at this
              exact hid this
            go_wp2
            go_ret
            rw [HA.out hfull.out]
            exact ⟨rfl, rfl⟩
  · have hz : s.size = 0 := by omega
    have hsz := hz
    rw [Lib.size_eq] at hz
    have hnil : s.data.toList = [] := List.eq_nil_of_length_eq_zero hz
    have t1 : (s.toList == []) = true := by rw [Lib.toList_data, hnil]; rfl
    have t2 : s.toList = [] := by rw [Lib.toList_data, hnil]
    have hA : ANS = false := by rw [← hANS, hnil]; rfl
    have HA := hid hA
    clear hz hsz hnil hANS hA
    go_enter Tryz.func75, Tryz.ntmps75
    go_wp2
    go_ret
    rw [HA.out]
    exact ⟨rfl, rfl⟩
end Go.Proofs.YtigdcgklpapfbaaGreatDoor.S3

set_option linter.unusedVariables false
namespace Go.Proofs.YtigdcgklpapfbaaGreatDoor.S3
open Go Go.Proofs Go.RowKit Go.Lib

set_option maxHeartbeats 4000000 in
set_option maxRecDepth 100000 in
theorem refValid_any (s : ByteArray) (w : World) : Calls Tryz.prog 71 #[.string s] w fun e w' => e = .returned (.bool (validC s.data.toList)) ∧ w = w' := by
  obtain ⟨ANS, hANS⟩ : ∃ ANS, validC s.data.toList = ANS := ⟨_, rfl⟩
  rw [hANS]
  by_cases h0 : 0 < s.size
  · have hz1 : ¬ (s.size : Int) < 1 := by omega
    have hz1d : decide ((s.size : Int) < 1) = false := decide_eq_false hz1
    by_cases h16 : 16 < s.size
    · have hA : ANS = false := by rw [← hANS]; exact valid_big h16
      have hz : (16 : Int) < (s.size : Int) := by omega
      have hzd : decide ((16 : Int) < (s.size : Int)) = true := decide_eq_true hz
      have HA := hid hA
      clear hANS hA
      go_enter Tryz.func71, Tryz.ntmps71
      go_wp2
      go_ret
      rw [HA.out]
      exact ⟨rfl, rfl⟩
    · have hz : ¬ (16 : Int) < (s.size : Int) := by omega
      have hzd : decide ((16 : Int) < (s.size : Int)) = false := decide_eq_false hz
      obtain ⟨x0, hx0⟩ : ∃ x, s[0]'h0 = x := ⟨_, rfl⟩
      rcases sgn_cases x0 with ⟨g1, _, hs0⟩ | ⟨g1, _, g2, _, hs0⟩ | ⟨g1, _, g2, _, hs0⟩
      · have hA : ANS = false := by rw [← hANS]; exact valid_sign h0 (by rw [hx0]; exact hs0)
        have HA := hid hA
        clear hANS hA hs0
        go_enter Tryz.func71, Tryz.ntmps71
        go_wp2
        go_ret
        rw [HA.out]
        exact ⟨rfl, rfl⟩
      · have hA : ANS = false := by rw [← hANS]; exact valid_sign h0 (by rw [hx0]; exact hs0)
        have HA := hid hA
        clear hANS hA hs0
        go_enter Tryz.func71, Tryz.ntmps71
        go_wp2
        go_ret
        rw [HA.out]
        exact ⟨rfl, rfl⟩
      · have hA : s.data.toList.all okC = true → ANS = true := fun h => by rw [← hANS]; exact valid_yes h0 (by omega) (by rw [hx0]; exact hs0) h
        have hB : s.data.toList.all okC = false → ANS = false := fun h => by rw [← hANS]; exact validC_no h
        have HA := hid hA
        have HB := hid hB
        clear hANS hA hB hs0
        go_enter Tryz.func71, Tryz.ntmps71
        go_wp2
        clear hx0 g1 g2
        go_loop [3] (fun i => ∃ k : Nat, k ≤ s.size ∧ i = .int .i64 (k : Int) ∧ Hid ((s.data.toList.take k).all okC = true)) (fun i => s.size - (RowKit.intOf i).toNat)
        case atStart => exact ⟨0, Nat.zero_le _, rfl, hid rfl⟩
        case round =>
          obtain ⟨k, hk, rfl, hall⟩ := hrel
          by_cases hlt : k < s.size
          · have hltz : (k : Int) < (s.size : Int) := by omega
            have hsn := all_snoc s k hlt
            have hbad := all_bad s k hlt
            have cL := letter_any (s[k]'hlt)
            have cD := digit_any (s[k]'hlt)
            obtain ⟨x, hx⟩ : ∃ x, s[k]'hlt = x := ⟨_, rfl⟩
            rw [hx] at hsn hbad cL cD
            have HSN := hid hsn
            have HBAD := hid hbad
            clear hsn hbad
            have hcs : (Hid (okC x = true) ∧ (dg x = true ∨ (dg x = false ∧ ltr x = true) ∨ (dg x = false ∧ ltr x = false ∧ sgn x = true))) ∨ (Hid (okC x = false) ∧ dg x = false ∧ ltr x = false ∧ sgn x = false) := by
              unfold okC
              cases h1 : ltr x <;> cases h2 : dg x <;> cases h3 : sgn x
              · exact .inr ⟨hid rfl, rfl, rfl, rfl⟩
              · exact .inl ⟨hid rfl, .inr (.inr ⟨rfl, rfl, rfl⟩)⟩
              · exact .inl ⟨hid rfl, .inl rfl⟩
              · exact .inl ⟨hid rfl, .inl rfl⟩
              · exact .inl ⟨hid rfl, .inr (.inl ⟨rfl, rfl⟩)⟩
              · exact .inl ⟨hid rfl, .inr (.inl ⟨rfl, rfl⟩)⟩
              · exact .inl ⟨hid rfl, .inl rfl⟩
              · exact .inl ⟨hid rfl, .inl rfl⟩
            rcases hcs with ⟨ho, h1 | ⟨h1, h2⟩ | ⟨h1, h2, h3⟩⟩ | ⟨ho, h1, h2, h3⟩
            · rw [h1] at cD
              clear h1 cL
              go_wp2_with (go_at_call 101; refine (cD _).mono ?_; rintro e w' ⟨rfl, rfl⟩)
              go_round
              case rel => exact ⟨k + 1, hlt, by go_num, by rw [HSN.out, hall.out, ho.out]; exact hid rfl⟩
              case measure => simp [RowKit.intOf]; omega
            · rw [h1] at cD
              rw [h2] at cL
              clear h1 h2
              go_wp2_with (first | (go_at_call 101; refine (cD _).mono ?_; rintro e w' ⟨rfl, rfl⟩) | (go_at_call 102; refine (cL _).mono ?_; rintro e w' ⟨rfl, rfl⟩))
              go_round
              case rel => exact ⟨k + 1, hlt, by go_num, by rw [HSN.out, hall.out, ho.out]; exact hid rfl⟩
              case measure => simp [RowKit.intOf]; omega
            · rw [h1] at cD
              rw [h2] at cL
              clear h1 h2
              rcases sgn_cases x with ⟨g1, g1', _⟩ | ⟨g1, g1', g2, g2', _⟩ | ⟨_, _, _, _, h⟩
              · clear h3
                go_wp2_with (first | (go_at_call 101; refine (cD _).mono ?_; rintro e w' ⟨rfl, rfl⟩) | (go_at_call 102; refine (cL _).mono ?_; rintro e w' ⟨rfl, rfl⟩))
                go_round
                case rel => exact ⟨k + 1, hlt, by go_num, by rw [HSN.out, hall.out, ho.out]; exact hid rfl⟩
                case measure => simp [RowKit.intOf]; omega
              · clear h3
                go_wp2_with (first | (go_at_call 101; refine (cD _).mono ?_; rintro e w' ⟨rfl, rfl⟩) | (go_at_call 102; refine (cL _).mono ?_; rintro e w' ⟨rfl, rfl⟩))
                go_round
                case rel => exact ⟨k + 1, hlt, by go_num, by rw [HSN.out, hall.out, ho.out]; exact hid rfl⟩
                case measure => simp [RowKit.intOf]; omega
              · rw [h3] at h; simp at h
            · rw [h1] at cD
              rw [h2] at cL
              clear h1 h2
              rcases sgn_cases x with ⟨_, _, h⟩ | ⟨_, _, _, _, h⟩ | ⟨g1, g1', g2, g2', _⟩
              · rw [h3] at h; simp at h
              · rw [h3] at h; simp at h
              · clear h3
                go_wp2_with (first | (go_at_call 101; refine (cD _).mono ?_; rintro e w' ⟨rfl, rfl⟩) | (go_at_call 102; refine (cL _).mono ?_; rintro e w' ⟨rfl, rfl⟩))
                go_ret
                rw [HB.out (HBAD.out ho.out)]
                exact ⟨rfl, rfl⟩
          · have hltz : ¬ (k : Int) < (s.size : Int) := by omega
            have hfull : Hid (s.data.toList.all okC = true) := by
              have := hall.out
              rw [List.take_of_length_le (by rw [← Lib.size_eq]; omega)] at this
              exact hid this
            go_wp2
            go_ret
            rw [HA.out hfull.out]
            exact ⟨rfl, rfl⟩
  · have hz : (s.size : Int) < 1 := by omega
    have hzd : decide ((s.size : Int) < 1) = true := decide_eq_true hz
    have hz' : s.size = 0 := by omega
    have hsz := hz'
    rw [Lib.size_eq] at hz'
    have hnil : s.data.toList = [] := List.eq_nil_of_length_eq_zero hz'
    have hA : ANS = false := by rw [← hANS, hnil]; rfl
    have HA := hid hA
    clear hz' hsz hnil hANS hA
    go_enter Tryz.func71, Tryz.ntmps71
    go_wp2
    go_ret
    rw [HA.out]
    exact ⟨rfl, rfl⟩
end Go.Proofs.YtigdcgklpapfbaaGreatDoor.S3

set_option linter.unusedVariables false
namespace Go.Proofs.YtigdcgklpapfbaaGreatDoor.S3
open Go Go.Proofs Go.RowKit Go.Lib

abbrev lst (s : ByteArray) : Str := s.data.toList
theorem lst_extract (s : ByteArray) (a b : Nat) : lst (s.extract a b) = ((lst s).take b).drop a := by
  simp [lst, ByteArray.data_extract, List.extract_eq_take_drop, List.drop_take]
theorem below_drewN {B : Nat} {a w : World} (h : Below B a w) : ∀ q, Below B a (w.drewN q)
  | 0 => h
  | q + 1 => (below_drewN h q).drew

/-- What cutElement hands back. -/
def CutOut (s : ByteArray) (w : World) (e : Ending) (w' : World) : Prop :=
  (∃ X Y : ByteArray, e = .returned (.tuple #[.string X, .string Y]) ∧ lst X = (lst s).take (elemN (lst s)) ∧ lst Y = (lst s).drop (elemN (lst s))) ∧ Below w.heap.size w w'

end Go.Proofs.YtigdcgklpapfbaaGreatDoor.S3

set_option linter.unusedVariables false
namespace Go.Proofs.YtigdcgklpapfbaaGreatDoor.S3
open Go Go.Proofs Go.RowKit Go.Lib

def strV (s : Str) : Value := .string ⟨s.toArray⟩
/-- The slice at A holds the strings l, in a block with P. -/
def StrsIn (w : World) (P : Nat → Prop) (A : Option Addr) (l : List Str) : Prop :=
  l = [] ∨ ∃ b off, A = some ⟨b, off, none⟩ ∧ P b ∧ ∀ (j : Nat) (s : Str), l[j]? = some s → w.cell? ⟨b, off + j, none⟩ = some (strV s)
theorem StrsIn.kept {w w' : World} {P : Nat → Prop} {A : Option Addr} {l : List Str} (h : StrsIn w P A l) (hk : ∀ b, P b → w'.heap[b]? = w.heap[b]?) : StrsIn w' P A l := by
  rcases h with h | ⟨b, off, hA, hP, hc⟩
  · exact .inl h
  · exact .inr ⟨b, off, hA, hP, fun j s hj => (World.cell?_of_block (w := w) (hk b hP)).trans (hc j s hj)⟩
theorem StrsIn.mono {w : World} {P P' : Nat → Prop} {A : Option Addr} {l : List Str} (h : StrsIn w P A l) (hP : ∀ b, P b → P' b) : StrsIn w P' A l := by
  rcases h with h | ⟨b, off, hA, hb, hc⟩
  · exact .inl h
  · exact .inr ⟨b, off, hA, hP b hb, hc⟩
theorem StrsIn.at_ {w : World} {P : Nat → Prop} {A : Option Addr} {l : List Str} (h : StrsIn w P A l) {k : Nat} (hk : k < l.length) :
    ∃ b off, A = some ⟨b, off, none⟩ ∧ P b ∧ w.cell? ⟨b, off + k, none⟩ = some (strV l[k]) := by
  rcases h with h | ⟨b, off, hA, hP, hc⟩
  · subst h; simp at hk
  · exact ⟨b, off, hA, hP, hc k _ (List.getElem?_eq_getElem hk)⟩

theorem infoStr : (Tryz.prog.info? 9).map (fun i => (i.zero, i.size, i.bytes)) = some (some (.string ⟨#[]⟩), 1, 16) := by kernel_rfl
def strVals (l : List Str) : List Value := l.map strV
theorem strVals_len (l : List Str) : (strVals l).length = l.length := by simp [strVals]
theorem strVals_app (a b : List Str) : strVals (a ++ b) = strVals a ++ strVals b := by simp [strVals]
/-- A row of strings that the call owns. -/
def StrRow (w : World) (B : Nat) (v : Value) (l : List Str) : Prop := w.ownsRow B 9 1 v l.length (strVals l)
theorem StrRow.strsIn {w : World} {B : Nat} {v : Value} {l : List Str} (h : StrRow w B v l) : ∃ A c, v = .slice A l.length c ∧ l.length ≤ c ∧ c ≤ 9223372036854775807 ∧ StrsIn w (fun b => B ≤ b ∧ b < w.heap.size) A l := by
  have h' := h
  rcases h.2 with ⟨hv, h0⟩ | ⟨g, cap, cur, hv, hB, hg, h1, h2, _⟩
  · have hl : l = [] := List.eq_nil_of_length_eq_zero h0
    subst hl
    exact ⟨none, 0, hv, Nat.le_refl _, by omega, .inl rfl⟩
  · refine ⟨_, cap, hv, h1, by unfold maxLen at h2; omega, .inr ⟨g, 0, rfl, ⟨hB, (Array.getElem?_eq_some_iff.1 hg).1⟩, fun j s hj => ?_⟩⟩
    have := World.ownsRow.cells h' (g := g) (by rw [hv]; rfl) j (strV s) (by unfold strVals; rw [List.getElem?_map, hj]; rfl)
    rwa [Addr.add_lit] at this
theorem StrRow.mono {w : World} {B B' : Nat} {v : Value} {l : List Str} (h : StrRow w B v l) (hB : B' ≤ B) : StrRow w B' v l := by
  obtain ⟨h1, h2⟩ := h
  refine ⟨h1, ?_⟩
  rcases h2 with h2 | ⟨g, cap, cur, hv, hg, r⟩
  · exact .inl h2
  · exact .inr ⟨g, cap, cur, hv, by omega, r⟩
theorem StrRow.one {B : Nat} {w : World} {v : Value} {l : List Str} (hr : StrRow w B v l) : ∀ u ∈ [v], u.oneCell' = true := by
  intro u hu
  simp at hu
  subst hu
  rcases hr.2 with ⟨h, _⟩ | ⟨g, cap, cur, h, _⟩ <;> rw [h] <;> rfl
theorem one_str (s : ByteArray) : ∀ u ∈ [Value.string s], u.oneCell' = true := by
  intro u hu
  simp at hu
  subst hu
  rfl

theorem row_under {w w' : World} {B e z n : Nat} {v : Value} {xs : List Value} (h : w.ownsRow B e z v n xs) (hb : Below w.heap.size w w') : w'.ownsRow B e z v n xs := by
  obtain ⟨h1, h2⟩ := h
  refine ⟨h1, ?_⟩
  rcases h2 with h2 | ⟨k, cap, cur, hk, hg, hh, r⟩
  · exact .inl h2
  · exact .inr ⟨k, cap, cur, hk, hg, (hb.block k (Array.getElem?_eq_some_iff.1 hh).1).trans hh, r⟩
set_option maxHeartbeats 1000000 in
theorem row_slice {w : World} {B e z n : Nat} {v : Value} {xs : List Value} (h : w.ownsRow B e z v n xs) : ∃ A c, v = .slice A n c := by
  rcases h.2 with ⟨hv, h0⟩ | ⟨g, cap, cur, hv, _⟩
  · exact ⟨none, 0, by rw [hv, h0]⟩
  · exact ⟨_, cap, hv⟩

end Go.Proofs.YtigdcgklpapfbaaGreatDoor.S3

set_option linter.unusedVariables false
namespace Go.Proofs.YtigdcgklpapfbaaGreatDoor
open Go Go.Proofs Go.RowKit Go.Lib

/-- The slice at A holds the times l, in a block with P. -/
def TimesIn (w : World) (P : Nat → Prop) (A : Option Addr) (l : List TimeD) : Prop :=
  (∀ t ∈ l, t.2.2.1 ≤ 9223372036854775807) ∧ (l = [] ∨ ∃ b off, A = some ⟨b, off, none⟩ ∧ P b ∧ ∀ (j : Nat) (t : TimeD), l[j]? = some t → ∀ (i : Nat) (v : Value), (timeVs t)[i]? = some v → w.cell? ⟨b, off + j * 4 + i, none⟩ = some v)
theorem TimesIn.nil (w : World) (P : Nat → Prop) (A : Option Addr) : TimesIn w P A [] := ⟨fun t h => by simp at h, .inl rfl⟩
theorem TimesIn.kept {w w' : World} {P : Nat → Prop} {A : Option Addr} {l : List TimeD} (h : TimesIn w P A l) (hk : ∀ b, P b → w'.heap[b]? = w.heap[b]?) : TimesIn w' P A l := by
  rcases h with ⟨hle, h | ⟨b, off, hA, hP, hc⟩⟩
  · exact ⟨hle, .inl h⟩
  · exact ⟨hle, .inr ⟨b, off, hA, hP, fun j t hj i v hv => (World.cell?_of_block (w := w) (hk b hP)).trans (hc j t hj i v hv)⟩⟩
theorem TimesIn.mono {w : World} {P P' : Nat → Prop} {A : Option Addr} {l : List TimeD} (h : TimesIn w P A l) (hP : ∀ b, P b → P' b) : TimesIn w P' A l := by
  rcases h with ⟨hle, h | ⟨b, off, hA, hb, hc⟩⟩
  · exact ⟨hle, .inl h⟩
  · exact ⟨hle, .inr ⟨b, off, hA, hP b hb, hc⟩⟩
theorem TimesIn.below {w w' : World} {B : Nat} {A : Option Addr} {l : List TimeD} (h : TimesIn w (fun b => b < B) A l) (hb : Below B w w') : TimesIn w' (fun b => b < B) A l := h.kept fun b hB => hb.block b hB
theorem TimesIn.at_ {w : World} {P : Nat → Prop} {A : Option Addr} {l : List TimeD} (h : TimesIn w P A l) {k : Nat} (hk : k < l.length) :
    ∃ b off, A = some ⟨b, off, none⟩ ∧ P b ∧ w.cell? ⟨b, off + k * 4, none⟩ = some (.int .i64 l[k].1) ∧ w.cell? ⟨b, off + k * 4 + 1, none⟩ = some (.int .i64 l[k].2.1) ∧ w.cell? ⟨b, off + k * 4 + 2, none⟩ = some (.int .i64 l[k].2.2.1) ∧ w.cell? ⟨b, off + k * 4 + 3, none⟩ = some (.int .i64 l[k].2.2.2) := by
  rcases h with ⟨hle, h | ⟨b, off, hA, hP, hc⟩⟩
  · subst h; simp at hk
  · have hg := List.getElem?_eq_getElem hk
    exact ⟨b, off, hA, hP, hc k _ hg 0 _ rfl, hc k _ hg 1 _ rfl, hc k _ hg 2 _ rfl, hc k _ hg 3 _ rfl⟩
theorem S3.StrsIn.below {w w' : World} {B : Nat} {A : Option Addr} {l : List Str} (h : S3.StrsIn w (fun b => b < B) A l) (hb : Below B w w') : S3.StrsIn w' (fun b => b < B) A l := h.kept fun b hB => hb.block b hB

/-- The five parts of a room, as they lie in memory. -/
structure Room5 where
  a1 : Option Addr
  c1 : Nat
  a2 : Option Addr
  c2 : Nat
def roomV (r : RoomD) (q : Room5) : Value := .agg #[.string (ba r.1), .string (ba r.2.1), .int .i64 r.2.2.1, .slice q.a1 r.2.2.2.1.length q.c1, .slice q.a2 r.2.2.2.2.length q.c2]
/-- What a room's slices lead to. -/
structure RoomIn (w : World) (P : Nat → Prop) (r : RoomD) (q : Room5) : Prop where
  f : S3.StrsIn w P q.a1 r.2.2.2.1
  t : TimesIn w P q.a2 r.2.2.2.2
  f1 : r.2.2.2.1.length ≤ q.c1
  f2 : q.c1 ≤ 9223372036854775807
  t1 : r.2.2.2.2.length ≤ q.c2
  t2 : q.c2 ≤ 9223372036854775807
theorem RoomIn.kept {w w' : World} {P : Nat → Prop} {r : RoomD} {q : Room5} (h : RoomIn w P r q) (hk : ∀ b, P b → w'.heap[b]? = w.heap[b]?) : RoomIn w' P r q :=
  ⟨h.f.kept hk, h.t.kept hk, h.f1, h.f2, h.t1, h.t2⟩
theorem RoomIn.mono {w : World} {P P' : Nat → Prop} {r : RoomD} {q : Room5} (h : RoomIn w P r q) (hP : ∀ b, P b → P' b) : RoomIn w P' r q := ⟨h.f.mono hP, h.t.mono hP, h.f1, h.f2, h.t1, h.t2⟩
theorem RoomIn.below {w w' : World} {B : Nat} {r : RoomD} {q : Room5} (h : RoomIn w (fun b => b < B) r q) (hb : Below B w w') : RoomIn w' (fun b => b < B) r q := h.kept fun b hB => hb.block b hB
end Go.Proofs.YtigdcgklpapfbaaGreatDoor

set_option linter.unusedVariables false
namespace Go.Proofs.YtigdcgklpapfbaaGreatDoor.S3
open Go Go.Lib

def Dgs (l : Str) : Prop := ∀ c ∈ l, dg c = true
def numN (l : Str) : Nat := l.foldl (fun n c => 10 * n + (c.toNat - 48)) 0
theorem dg_val {c : UInt8} (h : dg c = true) : 48 ≤ c.toNat ∧ c.toNat ≤ 57 := by simpa [dg] using h
theorem decFrom_fold : ∀ (l : Str) (acc : Nat), Dgs l → Lib.decFrom acc l = some (l.foldl (fun n c => 10 * n + (c.toNat - 48)) acc)
  | [], acc, _ => rfl
  | c :: r, acc, h => by
    have hc := dg_val (h c (by simp))
    unfold Lib.decFrom Lib.digitVal
    rw [if_pos hc]
    simp only
    rw [decFrom_fold r _ (fun x hx => h x (List.mem_cons_of_mem _ hx)), List.foldl_cons, Nat.mul_comm acc 10]
theorem atoi_num (l : Str) (h0 : l ≠ []) (h : Dgs l) : Lib.atoi l = some (numN l : Int) := by
  cases l with
  | nil => exact absurd rfl h0
  | cons c r =>
    have hc := dg_val (h c (by simp))
    have e1 : (c == 45) = false := by
      rw [beq_eq_false_iff_ne]
      rintro rfl
      simp at hc
    have e2 : (c == 43) = false := by
      rw [beq_eq_false_iff_ne]
      rintro rfl
      simp at hc
    unfold Lib.atoi
    dsimp only
    rw [e1, e2, if_neg (by simp), if_neg (by simp)]
    unfold Lib.decNat
    rw [if_neg (by simp), decFrom_fold _ 0 h]
    rfl
theorem numN_snoc (l : Str) (c : UInt8) : numN (l ++ [c]) = 10 * numN l + (c.toNat - 48) := by simp [numN]
theorem fold_le : ∀ (l : Str) (acc : Nat), Dgs l → l.foldl (fun n c => 10 * n + (c.toNat - 48)) acc < (acc + 1) * 10 ^ l.length
  | [], acc, _ => by simp
  | c :: r, acc, h => by
    have hc := dg_val (h c (by simp))
    have ih := fold_le r (10 * acc + (c.toNat - 48)) (fun x hx => h x (List.mem_cons_of_mem _ hx))
    rw [List.foldl_cons, List.length_cons, Nat.pow_succ]
    refine Nat.lt_of_lt_of_le ih ?_
    rw [Nat.mul_comm (10 ^ r.length) 10, ← Nat.mul_assoc]
    exact Nat.mul_le_mul_right _ (by omega)
theorem numN_lt (l : Str) (h : Dgs l) : numN l < 10 ^ l.length := by
  have := fold_le l 0 h
  simpa [numN] using this
theorem numN_small (l : Str) (h : Dgs l) (hl : l.length ≤ 16) : numN l < 10000000000000000 := by
  have h1 := numN_lt l h
  have h2 : 10 ^ l.length ≤ 10 ^ 16 := Nat.pow_le_pow_right (by omega) hl
  have h3 : 10 ^ 16 = 10000000000000000 := by decide
  omega
theorem dec_small {u : Nat} (h : u < 10) : decDigits u = [UInt8.ofNat (48 + u)] := Lib.decDigits_one h
theorem dec_step (m d : Nat) (hm : 1 ≤ m) (hd : d < 10) : decDigits (10 * m + d) = decDigits m ++ [UInt8.ofNat (48 + d)] := by
  conv => lhs; rw [decDigits]
  rw [dif_neg (by omega), show (10 * m + d) / 10 = m by omega, show (10 * m + d) % 10 = d by omega]
theorem ofNat_val {d : Nat} (h : d < 10) : (UInt8.ofNat (48 + d)).toNat = 48 + d := by
  simp
  omega
theorem dg_ofNat {d : Nat} (h : d < 10) : dg (UInt8.ofNat (48 + d)) = true := by
  unfold dg
  rw [ofNat_val h]
  simp
  omega
theorem dec_facts : ∀ (n u : Nat), u ≤ n → Dgs (decDigits u) ∧ numN (decDigits u) = u ∧ 1 ≤ (decDigits u).length
  | 0, u, h => by
    obtain rfl : u = 0 := by omega
    rw [dec_small (by omega)]
    refine ⟨fun c hc => ?_, rfl, by simp⟩
    obtain rfl : c = UInt8.ofNat (48 + 0) := by simpa using hc
    decide
  | n + 1, u, h => by
    by_cases hu : u < 10
    · rw [dec_small hu]
      refine ⟨fun c hc => ?_, ?_, by simp⟩
      · obtain rfl : c = UInt8.ofNat (48 + u) := by simpa using hc
        exact dg_ofNat hu
      · show 10 * 0 + ((UInt8.ofNat (48 + u)).toNat - 48) = u
        rw [ofNat_val hu]
        omega
    · obtain ⟨m, d, hm, hd, rfl⟩ : ∃ m d, 1 ≤ m ∧ d < 10 ∧ u = 10 * m + d := ⟨u / 10, u % 10, by omega, by omega, by omega⟩
      obtain ⟨h1, h2, h3⟩ := dec_facts n m (by omega)
      rw [dec_step m d hm hd]
      refine ⟨fun c hc => ?_, ?_, by simp⟩
      · rcases List.mem_append.1 hc with hc | hc
        · exact h1 c hc
        · obtain rfl : c = UInt8.ofNat (48 + d) := by simpa using hc
          exact dg_ofNat hd
      · rw [numN_snoc, h2, ofNat_val hd]
        omega
theorem dec_dgs (u : Nat) : Dgs (decDigits u) := (dec_facts u u (Nat.le_refl _)).1
theorem dec_num (u : Nat) : numN (decDigits u) = u := (dec_facts u u (Nat.le_refl _)).2.1
theorem dec_pos (u : Nat) : 1 ≤ (decDigits u).length := (dec_facts u u (Nat.le_refl _)).2.2
theorem dec_len (u k : Nat) (h : u < 10 ^ k) (hk : 1 ≤ k) : (decDigits u).length ≤ k := by
  induction k generalizing u with
  | zero => omega
  | succ k ih =>
    by_cases hu : u < 10
    · rw [dec_small hu]
      simp
    · obtain ⟨m, d, hm, hd, rfl⟩ : ∃ m d, 1 ≤ m ∧ d < 10 ∧ u = 10 * m + d := ⟨u / 10, u % 10, by omega, by omega, by omega⟩
      rw [dec_step m d hm hd, List.length_append]
      rw [Nat.pow_succ] at h
      have hk' : 1 ≤ k := by
        rcases Nat.eq_zero_or_pos k with h0 | h0
        · subst h0; simp at h; omega
        · exact h0
      have := ih m (by omega) hk'
      simp
      omega
def zerosS (k : Nat) : Str := List.replicate k 48
/-- A number in decimal with a width. -/
def wrS (n w : Nat) : Str := zerosS (w - (decDigits n).length) ++ decDigits n
theorem num_zeros : ∀ (k : Nat) (l : Str), numN (zerosS k ++ l) = numN l
  | 0, l => rfl
  | k + 1, l => by
    have ih := num_zeros k l
    unfold numN zerosS at ih ⊢
    rw [List.replicate_succ]
    simpa using ih
theorem wr_num (n w : Nat) : numN (wrS n w) = n := by unfold wrS; rw [num_zeros, dec_num]
theorem wr_dgs (n w : Nat) : Dgs (wrS n w) := fun c hc => by
  rcases List.mem_append.1 hc with hc | hc
  · obtain rfl : c = 48 := List.eq_of_mem_replicate hc
    decide
  · exact dec_dgs n c hc
theorem wr_len (n w : Nat) : (wrS n w).length = max w (decDigits n).length := by
  unfold wrS zerosS
  rw [List.length_append, List.length_replicate]
  omega
theorem wr_ne (n w : Nat) : wrS n w ≠ [] := fun e => by
  have h1 := wr_len n w
  have h2 := dec_pos n
  rw [e] at h1
  simp at h1
  omega
/-- Digits are their number, written with as many digits. -/
theorem wr_self : ∀ (k : Nat) (u : Str), u.length = k + 1 → Dgs u → wrS (numN u) u.length = u
  | 0, u, hl, h => by
    match u, hl with
    | [c], _ =>
      have hc := dg_val (h c (by simp))
      have hn : numN [c] = c.toNat - 48 := by simp [numN]
      have hd : decDigits (c.toNat - 48) = [c] := by
        rw [dec_small (by omega), show 48 + (c.toNat - 48) = c.toNat by omega]
        simp
      unfold wrS
      rw [hn, hd]
      rfl
  | k + 1, u, hl, h => by
    obtain ⟨a, c, rfl⟩ : ∃ a c, u = a ++ [c] := by
      rcases List.eq_nil_or_concat u with h0 | ⟨a, c, h0⟩
      · rw [h0] at hl; simp at hl
      · exact ⟨a, c, by simpa using h0⟩
    have ha : a.length = k + 1 := by simpa using hl
    have hda : Dgs a := fun x hx => h x (List.mem_append_left _ hx)
    have hc := dg_val (h c (by simp))
    have ih := wr_self k a ha hda
    have hcc : UInt8.ofNat (48 + (c.toNat - 48)) = c := by rw [show 48 + (c.toNat - 48) = c.toNat by omega]; simp
    rw [numN_snoc]
    generalize numN a = m at ih ⊢
    by_cases hm : m = 0
    · subst hm
      have h0 : decDigits 0 = [48] := by rw [dec_small (by omega)]; rfl
      have hz : a = zerosS a.length := by
        conv => lhs; rw [← ih]
        unfold wrS
        rw [h0]
        unfold zerosS
        rw [ha]
        show List.replicate (k + 1 - 1) 48 ++ [48] = List.replicate (k + 1) 48
        rw [List.replicate_succ', show k + 1 - 1 = k by omega]
      unfold wrS
      rw [show 10 * 0 + (c.toNat - 48) = c.toNat - 48 by omega, dec_small (by omega), hcc]
      conv => rhs; rw [hz]
      rw [List.length_append]
      congr 1
    · unfold wrS at ih ⊢
      rw [dec_step m _ (by omega) (by omega), hcc, List.length_append, List.length_append, List.length_singleton,
        show a.length + 1 - ((decDigits m).length + 1) = a.length - (decDigits m).length by omega, ← List.append_assoc, ih]

/-! ### the last number of a code -/
def preS (s : Str) : Str := (s.reverse.dropWhile dg).reverse
def lastS (s : Str) : Str := s.drop (preS s).length
theorem digits_dg (c : UInt8) : ([48, 49, 50, 51, 52, 53, 54, 55, 56, 57] : Str).contains c = dg c := by
  unfold dg
  rw [Bool.eq_iff_iff]
  simp only [List.contains_iff_mem, List.mem_cons, List.not_mem_nil, or_false, Bool.and_eq_true, decide_eq_true_eq]
  constructor
  · rintro (rfl | rfl | rfl | rfl | rfl | rfl | rfl | rfl | rfl | rfl) <;> decide
  · intro h
    have : c = UInt8.ofNat c.toNat := by simp
    rcases (show c.toNat = 48 ∨ c.toNat = 49 ∨ c.toNat = 50 ∨ c.toNat = 51 ∨ c.toNat = 52 ∨ c.toNat = 53 ∨ c.toNat = 54 ∨ c.toNat = 55 ∨ c.toNat = 56 ∨ c.toNat = 57 by omega) with h | h | h | h | h | h | h | h | h | h <;> rw [h] at this <;> simp [this]
theorem trim_pre (s : Str) : Lib.trimRightS s [48, 49, 50, 51, 52, 53, 54, 55, 56, 57] = preS s := by
  unfold Lib.trimRightS preS
  congr 2
  funext c
  exact digits_dg c
theorem pre_split (s : Str) : preS s ++ lastS s = s := by
  have h : preS s <+: s := by
    unfold preS
    rw [← List.reverse_suffix, List.reverse_reverse]
    exact List.dropWhile_suffix _
  unfold lastS
  obtain ⟨t, ht⟩ := h
  conv => lhs; rw [← ht]
  rw [show preS (preS s ++ t) = preS s by rw [ht]]
  simp
  exact ht
theorem dropWhile_head {p : UInt8 → Bool} : ∀ (l : Str) (c : UInt8) (r : Str), l.dropWhile p = c :: r → p c = false
  | [], c, r, h => by simp at h
  | x :: l, c, r, h => by
    by_cases hx : p x = true
    · rw [List.dropWhile_cons_of_pos hx] at h
      exact dropWhile_head l c r h
    · rw [List.dropWhile_cons_of_neg hx] at h
      injection h with h _
      subst h
      simpa using hx
theorem pre_end (s p : Str) (c : UInt8) (h : preS s = p ++ [c]) : dg c = false := by
  unfold preS at h
  have := congrArg List.reverse h
  rw [List.reverse_reverse, List.reverse_append] at this
  exact dropWhile_head _ c _ this
theorem pre_app (p v : Str) (hv : Dgs v) (hp : ∀ q c, p = q ++ [c] → dg c = false) : preS (p ++ v) = p := by
  unfold preS
  rw [List.reverse_append, List.dropWhile_append_of_pos (fun x hx => hv x (by simpa using hx))]
  cases hr : p.reverse with
  | nil =>
    have : p = [] := by simpa using hr
    rw [this]
    rfl
  | cons c r =>
    have hpc : p = r.reverse ++ [c] := by
      have := congrArg List.reverse hr
      simpa using this
    rw [List.dropWhile_cons_of_neg (by rw [hp _ _ hpc]; simp)]
    rw [hpc]
    simp
theorem last_app (p v : Str) (hv : Dgs v) (hp : ∀ q c, p = q ++ [c] → dg c = false) : lastS (p ++ v) = v := by
  unfold lastS
  rw [pre_app p v hv hp]
  simp
theorem takeWhile_all {p : UInt8 → Bool} : ∀ (l : Str), ∀ x ∈ l.takeWhile p, p x = true
  | [], x, h => by simp at h
  | y :: l, x, h => by
    by_cases hy : p y = true
    · rw [List.takeWhile_cons_of_pos hy] at h
      rcases List.mem_cons.1 h with h | h
      · rw [h]; exact hy
      · exact takeWhile_all l x h
    · rw [List.takeWhile_cons_of_neg hy] at h
      simp at h
theorem last_dgs (s : Str) : Dgs (lastS s) := by
  have h1 : s = preS s ++ (s.reverse.takeWhile dg).reverse := by
    unfold preS
    rw [← List.reverse_append, List.takeWhile_append_dropWhile]
    simp
  have h2 : lastS s = (s.reverse.takeWhile dg).reverse := by
    have := pre_split s
    conv at this => rhs; rw [h1]
    exact List.append_cancel_left this
  rw [h2]
  intro c hc
  exact takeWhile_all _ c (by simpa using hc)
end Go.Proofs.YtigdcgklpapfbaaGreatDoor.S3

