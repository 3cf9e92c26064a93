/-
  Letters, digits, signs, and whether a string is a code: the program's functions and the reference's. Conditions: none.
  Whether a string is a code: the program's Valid and the reference's. Conditions: none.
  Whether a string is a code: the reference's Valid. Conditions: none.
  The first element of a string: the program's cutElement with the function value that tells where an element ends. Conditions: the string is not empty and fits into memory.
-/
import Derived.Test.YtnpfmoalgphkcaaGreatDoorVA12
import Derived.Test.YtnpfmoalgphkcaaGreatDoorVA01
set_option linter.unusedVariables false
namespace Go.Proofs.YtnpfmoalgphkcaaGreatDoor.S3
open Go Go.Proofs Go.RowKit Go.Lib

def ltr (c : UInt8) : Bool := (decide (65 ≤ c.toNat) && decide (c.toNat ≤ 90)) || (decide (97 ≤ c.toNat) && decide (c.toNat ≤ 122))
def sgn (c : UInt8) : Bool := c.toNat == 95 || c.toNat == 45
def okC (c : UInt8) : Bool := ltr c || dg c || sgn c
/-- A code. -/
def validC (s : Str) : Bool := match s with | [] => false | c :: _ => decide (s.length ≤ 16) && !sgn c && s.all okC
set_option maxHeartbeats 1000000 in
theorem isDigit_any (c : UInt8) (w : World) : Calls Tryz.prog 87 #[.int .u8 (c.toNat : Int)] w fun e w' => e = .returned (.bool (dg c)) ∧ w = w' := by
  unfold dg
  rcases (show c.toNat < 48 ∨ (48 ≤ c.toNat ∧ c.toNat ≤ 57) ∨ 57 < c.toNat by omega) with h | h | h
  · have z1 : ¬ (48 : Int) ≤ (c.toNat : Int) := by omega
    rw [show (decide (48 ≤ c.toNat) && decide (c.toNat ≤ 57)) = false by simp; omega]
    go_enter Tryz.func87, Tryz.ntmps87
    go_wp2
    go_ret
    exact ⟨rfl, rfl⟩
  · have z1 : (48 : Int) ≤ (c.toNat : Int) := by omega
    have z2 : (c.toNat : Int) ≤ 57 := by omega
    rw [show (decide (48 ≤ c.toNat) && decide (c.toNat ≤ 57)) = true by simp; omega]
    go_enter Tryz.func87, Tryz.ntmps87
    go_wp2
    go_ret
    exact ⟨rfl, rfl⟩
  · have z1 : (48 : Int) ≤ (c.toNat : Int) := by omega
    have z2 : ¬ (c.toNat : Int) ≤ 57 := by omega
    rw [show (decide (48 ≤ c.toNat) && decide (c.toNat ≤ 57)) = false by simp; omega]
    go_enter Tryz.func87, Tryz.ntmps87
    go_wp2
    go_ret
    exact ⟨rfl, rfl⟩
set_option maxHeartbeats 1000000 in
theorem digit_any (c : UInt8) (w : World) : Calls Tryz.prog 67 #[.int .u8 (c.toNat : Int)] w fun e w' => e = .returned (.bool (dg c)) ∧ w = w' := by
  unfold dg
  rcases (show c.toNat < 48 ∨ (48 ≤ c.toNat ∧ c.toNat ≤ 57) ∨ 57 < c.toNat by omega) with h | h | h
  · have z1 : ¬ (48 : Int) ≤ (c.toNat : Int) := by omega
    rw [show (decide (48 ≤ c.toNat) && decide (c.toNat ≤ 57)) = false by simp; omega]
    go_enter Tryz.func67, Tryz.ntmps67
    go_wp2
    go_ret
    exact ⟨rfl, rfl⟩
  · have z1 : (48 : Int) ≤ (c.toNat : Int) := by omega
    have z2 : (c.toNat : Int) ≤ 57 := by omega
    rw [show (decide (48 ≤ c.toNat) && decide (c.toNat ≤ 57)) = true by simp; omega]
    go_enter Tryz.func67, Tryz.ntmps67
    go_wp2
    go_ret
    exact ⟨rfl, rfl⟩
  · have z1 : (48 : Int) ≤ (c.toNat : Int) := by omega
    have z2 : ¬ (c.toNat : Int) ≤ 57 := by omega
    rw [show (decide (48 ≤ c.toNat) && decide (c.toNat ≤ 57)) = false by simp; omega]
    go_enter Tryz.func67, Tryz.ntmps67
    go_wp2
    go_ret
    exact ⟨rfl, rfl⟩
theorem ltr_cases (c : UInt8) : (c.toNat < 65 ∧ ltr c = false) ∨ ((65 ≤ c.toNat ∧ c.toNat ≤ 90) ∧ ltr c = true) ∨ ((90 < c.toNat ∧ c.toNat < 97) ∧ ltr c = false) ∨ ((97 ≤ c.toNat ∧ c.toNat ≤ 122) ∧ ltr c = true) ∨ (122 < c.toNat ∧ ltr c = false) := by
  unfold ltr
  rcases (show c.toNat < 65 ∨ (65 ≤ c.toNat ∧ c.toNat ≤ 90) ∨ (90 < c.toNat ∧ c.toNat < 97) ∨ (97 ≤ c.toNat ∧ c.toNat ≤ 122) ∨ 122 < c.toNat by omega) with h | h | h | h | h
  · exact .inl ⟨h, by simp; omega⟩
  · exact .inr (.inl ⟨h, by simp; omega⟩)
  · exact .inr (.inr (.inl ⟨h, by simp; omega⟩))
  · exact .inr (.inr (.inr (.inl ⟨h, by simp; omega⟩)))
  · exact .inr (.inr (.inr (.inr ⟨h, by simp; omega⟩)))
set_option maxHeartbeats 1000000 in
theorem isLetter_any (c : UInt8) (w : World) : Calls Tryz.prog 86 #[.int .u8 (c.toNat : Int)] w fun e w' => e = .returned (.bool (ltr c)) ∧ w = w' := by
  rcases ltr_cases c with ⟨h, e⟩ | ⟨h, e⟩ | ⟨h, e⟩ | ⟨h, e⟩ | ⟨h, e⟩ <;> rw [e] <;> clear e
  · have z1 : ¬ (65 : Int) ≤ (c.toNat : Int) := by omega
    have z3 : ¬ (97 : Int) ≤ (c.toNat : Int) := by omega
    go_enter Tryz.func86, Tryz.ntmps86
    go_wp2
    go_ret
    exact ⟨rfl, rfl⟩
  · have z1 : (65 : Int) ≤ (c.toNat : Int) := by omega
    have z2 : (c.toNat : Int) ≤ 90 := by omega
    go_enter Tryz.func86, Tryz.ntmps86
    go_wp2
    go_ret
    exact ⟨rfl, rfl⟩
  · have z1 : (65 : Int) ≤ (c.toNat : Int) := by omega
    have z2 : ¬ (c.toNat : Int) ≤ 90 := by omega
    have z3 : ¬ (97 : Int) ≤ (c.toNat : Int) := by omega
    go_enter Tryz.func86, Tryz.ntmps86
    go_wp2
    go_ret
    exact ⟨rfl, rfl⟩
  · have z1 : (65 : Int) ≤ (c.toNat : Int) := by omega
    have z2 : ¬ (c.toNat : Int) ≤ 90 := by omega
    have z3 : (97 : Int) ≤ (c.toNat : Int) := by omega
    have z4 : (c.toNat : Int) ≤ 122 := by omega
    go_enter Tryz.func86, Tryz.ntmps86
    go_wp2
    go_ret
    exact ⟨rfl, rfl⟩
  · have z1 : (65 : Int) ≤ (c.toNat : Int) := by omega
    have z2 : ¬ (c.toNat : Int) ≤ 90 := by omega
    have z3 : (97 : Int) ≤ (c.toNat : Int) := by omega
    have z4 : ¬ (c.toNat : Int) ≤ 122 := by omega
    go_enter Tryz.func86, Tryz.ntmps86
    go_wp2
    go_ret
    exact ⟨rfl, rfl⟩
set_option maxHeartbeats 1000000 in
theorem letter_any (c : UInt8) (w : World) : Calls Tryz.prog 68 #[.int .u8 (c.toNat : Int)] w fun e w' => e = .returned (.bool (ltr c)) ∧ w = w' := by
  rcases ltr_cases c with ⟨h, e⟩ | ⟨h, e⟩ | ⟨h, e⟩ | ⟨h, e⟩ | ⟨h, e⟩ <;> rw [e] <;> clear e
  · have z1 : ¬ (65 : Int) ≤ (c.toNat : Int) := by omega
    have z3 : ¬ (97 : Int) ≤ (c.toNat : Int) := by omega
    go_enter Tryz.func68, Tryz.ntmps68
    go_wp2
    go_ret
    exact ⟨rfl, rfl⟩
  · have z1 : (65 : Int) ≤ (c.toNat : Int) := by omega
    have z2 : (c.toNat : Int) ≤ 90 := by omega
    go_enter Tryz.func68, Tryz.ntmps68
    go_wp2
    go_ret
    exact ⟨rfl, rfl⟩
  · have z1 : (65 : Int) ≤ (c.toNat : Int) := by omega
    have z2 : ¬ (c.toNat : Int) ≤ 90 := by omega
    have z3 : ¬ (97 : Int) ≤ (c.toNat : Int) := by omega
    go_enter Tryz.func68, Tryz.ntmps68
    go_wp2
    go_ret
    exact ⟨rfl, rfl⟩
  · have z1 : (65 : Int) ≤ (c.toNat : Int) := by omega
    have z2 : ¬ (c.toNat : Int) ≤ 90 := by omega
    have z3 : (97 : Int) ≤ (c.toNat : Int) := by omega
    have z4 : (c.toNat : Int) ≤ 122 := by omega
    go_enter Tryz.func68, Tryz.ntmps68
    go_wp2
    go_ret
    exact ⟨rfl, rfl⟩
  · have z1 : (65 : Int) ≤ (c.toNat : Int) := by omega
    have z2 : ¬ (c.toNat : Int) ≤ 90 := by omega
    have z3 : (97 : Int) ≤ (c.toNat : Int) := by omega
    have z4 : ¬ (c.toNat : Int) ≤ 122 := by omega
    go_enter Tryz.func68, Tryz.ntmps68
    go_wp2
    go_ret
    exact ⟨rfl, rfl⟩
theorem sgn_cases (c : UInt8) : (((c.toNat : Int) == 95) = true ∧ ((c.toNat : Int) != 95) = false ∧ sgn c = true) ∨ (((c.toNat : Int) == 95) = false ∧ ((c.toNat : Int) != 95) = true ∧ ((c.toNat : Int) == 45) = true ∧ ((c.toNat : Int) != 45) = false ∧ sgn c = true) ∨ (((c.toNat : Int) == 95) = false ∧ ((c.toNat : Int) != 95) = true ∧ ((c.toNat : Int) == 45) = false ∧ ((c.toNat : Int) != 45) = true ∧ sgn c = false) := by
  unfold sgn
  rcases (show c.toNat = 95 ∨ c.toNat = 45 ∨ (c.toNat ≠ 95 ∧ c.toNat ≠ 45) by omega) with h | h | h
  · exact .inl (by rw [h]; decide)
  · exact .inr (.inl (by rw [h]; decide))
  · refine .inr (.inr ⟨?_, ?_, ?_, ?_, ?_⟩) <;> simp <;> omega
set_option maxHeartbeats 1000000 in
theorem isSign_any (c : UInt8) (w : World) : Calls Tryz.prog 85 #[.int .u8 (c.toNat : Int)] w fun e w' => e = .returned (.bool (sgn c)) ∧ w = w' := by
  rcases sgn_cases c with ⟨h, _, e⟩ | ⟨h1, _, h2, _, e⟩ | ⟨h1, _, h2, _, e⟩ <;> rw [e] <;> clear e
  all_goals
    go_enter Tryz.func85, Tryz.ntmps85
    go_wp2
    go_ret
    exact ⟨rfl, rfl⟩

theorem all_snoc (s : ByteArray) (k : Nat) (h : k < s.size) : (s.data.toList.take (k + 1)).all okC = ((s.data.toList.take k).all okC && okC s[k]) := by
  rw [List.take_succ_eq_append_getElem (by simpa using h), List.all_append]
  simp
  rfl
theorem all_bad (s : ByteArray) (k : Nat) (h : k < s.size) (hb : okC s[k] = false) : s.data.toList.all okC = false := by
  rw [List.all_eq_false]
  refine ⟨s[k], ?_, by simp [hb]⟩
  exact Array.mem_toList_iff.2 (Array.getElem_mem _)
theorem validC_no {s : ByteArray} (h : s.data.toList.all okC = false) : validC s.data.toList = false := by
  unfold validC
  split
  · rfl
  · rw [h, Bool.and_false]
theorem valid_big {s : ByteArray} (h : 16 < s.size) : validC s.data.toList = false := by
  rw [Lib.size_eq] at h
  unfold validC
  split
  · rfl
  · rw [decide_eq_false (by omega)]; rfl
theorem valid_sign {s : ByteArray} (h0 : 0 < s.size) (h : sgn s[0] = true) : validC s.data.toList = false := by
  unfold validC
  split
  · rfl
  · rename_i c r hs
    have : s[0] = c := by
      have : s.data.toList[0]? = some c := by rw [hs]; rfl
      rw [Lib.size_eq] at h0
      rw [List.getElem?_eq_getElem h0] at this
      exact Option.some.inj this
    rw [this] at h
    rw [h]
    simp
theorem valid_yes {s : ByteArray} (h0 : 0 < s.size) (h16 : s.size ≤ 16) (h : sgn s[0] = false) (ha : s.data.toList.all okC = true) : validC s.data.toList = true := by
  rw [Lib.size_eq] at h16
  unfold validC
  split
  · rename_i hs; rw [Lib.size_eq, hs] at h0; simp at h0
  · rename_i c r hs
    have : s[0] = c := by
      have : s.data.toList[0]? = some c := by rw [hs]; rfl
      rw [Lib.size_eq] at h0
      rw [List.getElem?_eq_getElem h0] at this
      exact Option.some.inj this
    rw [this] at h
    rw [h, ha, decide_eq_true h16]
    rfl
end Go.Proofs.YtnpfmoalgphkcaaGreatDoor.S3

set_option linter.unusedVariables false
namespace Go.Proofs.YtnpfmoalgphkcaaGreatDoor.S3
open Go Go.Proofs Go.RowKit Go.Lib

theorem okC_cases (x : UInt8) : (ltr x = true ∧ Hid (okC x = true)) ∨ (ltr x = false ∧ dg x = true ∧ Hid (okC x = true)) ∨ (ltr x = false ∧ dg x = false ∧ sgn x = true ∧ Hid (okC x = true)) ∨ (ltr x = false ∧ dg x = false ∧ sgn x = false ∧ Hid (okC x = false)) := by
  unfold okC
  cases h1 : ltr x
  · cases h2 : dg x
    · cases h3 : sgn x
      · exact .inr (.inr (.inr ⟨rfl, rfl, rfl, hid rfl⟩))
      · exact .inr (.inr (.inl ⟨rfl, rfl, rfl, hid rfl⟩))
    · exact .inr (.inl ⟨rfl, rfl, hid rfl⟩)
  · exact .inl ⟨rfl, hid rfl⟩

set_option maxHeartbeats 4000000 in
set_option maxRecDepth 100000 in
theorem valid_any (s : ByteArray) (w : World) : Calls Tryz.prog 63 #[.string s] w fun e w' => e = .returned (.bool (validC s.data.toList)) ∧ w = w' := by
  obtain ⟨ANS, hANS⟩ : ∃ ANS, validC s.data.toList = ANS := ⟨_, rfl⟩
  rw [hANS]
  by_cases h0 : 0 < s.size
  · have hne : s.data.toList ≠ [] := fun e => by rw [Lib.size_eq, e] at h0; simp at h0
    have t1 : (s.toList == []) = false := by rw [Lib.toList_data]; simpa using hne
    have t2 : (!s.toList.isEmpty) = true := by rw [Lib.toList_data]; simpa using hne
    by_cases h16 : 16 < s.size
    · have hA : ANS = false := by rw [← hANS]; exact valid_big h16
      have hz : (16 : Int) < (s.size : Int) := by omega
      have hzd : decide ((16 : Int) < (s.size : Int)) = true := decide_eq_true hz
      have HA := hid hA
      clear hne hANS hA
      go_enter Tryz.func63, Tryz.ntmps63
      go_wp2
      go_ret
      rw [HA.out]
      exact ⟨rfl, rfl⟩
    · have hz : ¬ (16 : Int) < (s.size : Int) := by omega
      have hzd : decide ((16 : Int) < (s.size : Int)) = false := decide_eq_false hz
      have cS := isSign_any (s[0]'h0)
      cases hs0 : sgn (s[0]'h0) with
      | true =>
        have hA : ANS = false := by rw [← hANS]; exact valid_sign h0 hs0
        have HA := hid hA
        rw [hs0] at cS
        obtain ⟨x, hx⟩ : ∃ x, s[0]'h0 = x := ⟨_, rfl⟩
        rw [hx] at cS
        clear hne hANS hA hs0
        go_enter Tryz.func63, Tryz.ntmps63
        go_wp2_with (go_at_call 85; refine (cS _).mono ?_; rintro e w' ⟨rfl, rfl⟩)
        go_ret
        rw [HA.out]
        exact ⟨rfl, rfl⟩
      | false =>
        rw [hs0] at cS
        have hA : s.data.toList.all okC = true → ANS = true := fun h => by rw [← hANS]; exact valid_yes h0 (by omega) hs0 h
        have hB : s.data.toList.all okC = false → ANS = false := fun h => by rw [← hANS]; exact validC_no h
        have HA := hid hA
        have HB := hid hB
        have CS := hid cS
        obtain ⟨x0, hx0⟩ : ∃ x, s[0]'h0 = x := ⟨_, rfl⟩
        rw [hx0] at CS
        clear hne hANS hA hB hs0 cS
        have cS := CS.out
        go_enter Tryz.func63, Tryz.ntmps63
        go_wp2_with (go_at_call 85; refine (cS _).mono ?_; rintro e w' ⟨rfl, rfl⟩)
        clear cS CS hx0
        go_loop [3, 18] (fun _ i => ∃ k : Nat, k ≤ s.size ∧ i = .int .i64 (k : Int) ∧ Hid ((s.data.toList.take k).all okC = true)) (fun _ i => s.size - (RowKit.intOf i).toNat)
        case atStart => exact ⟨0, Nat.zero_le _, rfl, hid rfl⟩
        case round =>
          obtain ⟨k, hk, rfl, hall⟩ := hrel
          by_cases hlt : k < s.size
          · have hltz : (k : Int) < (s.size : Int) := by omega
            have hsn := all_snoc s k hlt
            have hbad := all_bad s k hlt
            have cL := isLetter_any (s[k]'hlt)
            have cD := isDigit_any (s[k]'hlt)
            have cG := isSign_any (s[k]'hlt)
            obtain ⟨x, hx⟩ : ∃ x, s[k]'hlt = x := ⟨_, rfl⟩
            rw [hx] at hsn hbad cL cD cG
            have HSN := hid hsn
            have HBAD := hid hbad
            clear hsn hbad
            rcases okC_cases x with ⟨h1, ho⟩ | ⟨h1, h2, ho⟩ | ⟨h1, h2, h3, ho⟩ | ⟨h1, h2, h3, ho⟩
            · rw [h1] at cL
              clear h1 cD cG
              go_wp2_with (go_at_call 86; refine (cL _).mono ?_; rintro e w' ⟨rfl, rfl⟩)
              go_round
              case rel => exact ⟨k + 1, hlt, by go_num, by rw [HSN.out, hall.out, ho.out]; exact hid rfl⟩
              case measure => simp [RowKit.intOf]; omega
            · rw [h1] at cL
              rw [h2] at cD
              clear h1 h2 cG
              go_wp2_with (first | (go_at_call 86; refine (cL _).mono ?_; rintro e w' ⟨rfl, rfl⟩) | (go_at_call 87; refine (cD _).mono ?_; rintro e w' ⟨rfl, rfl⟩))
              go_round
              case rel => exact ⟨k + 1, hlt, by go_num, by rw [HSN.out, hall.out, ho.out]; exact hid rfl⟩
              case measure => simp [RowKit.intOf]; omega
            · rw [h1] at cL
              rw [h2] at cD
              rw [h3] at cG
              clear h1 h2 h3
              go_wp2_with (first | (go_at_call 86; refine (cL _).mono ?_; rintro e w' ⟨rfl, rfl⟩) | (go_at_call 87; refine (cD _).mono ?_; rintro e w' ⟨rfl, rfl⟩) | (go_at_call 85; refine (cG _).mono ?_; rintro e w' ⟨rfl, rfl⟩))
              go_round
              case rel => exact ⟨k + 1, hlt, by go_num, by rw [HSN.out, hall.out, ho.out]; exact hid rfl⟩
              case measure => simp [RowKit.intOf]; omega
            · rw [h1] at cL
              rw [h2] at cD
              rw [h3] at cG
              clear h1 h2 h3
              go_wp2_with (first | (go_at_call 86; refine (cL _).mono ?_; rintro e w' ⟨rfl, rfl⟩) | (go_at_call 87; refine (cD _).mono ?_; rintro e w' ⟨rfl, rfl⟩) | (go_at_call 85; refine (cG _).mono ?_; rintro e w' ⟨rfl, rfl⟩))
              go_ret
              rw [HB.out (HBAD.out ho.out)]
              exact ⟨rfl, rfl⟩
          · have hltz : ¬ (k : Int) < (s.size : Int) := by omega
            have hfull : Hid (s.data.toList.all okC = true) := by
              have := hall.out
              rw [List.take_of_length_le (by rw [← Lib.size_eq]; omega)] at this
              exact hid this
            go_wp2
            go_ret
            rw [HA.out hfull.out]
            exact ⟨rfl, rfl⟩
  · have hz : s.size = 0 := by omega
    have hsz := hz
    rw [Lib.size_eq] at hz
    have hnil : s.data.toList = [] := List.eq_nil_of_length_eq_zero hz
    have t1 : (s.toList == []) = true := by rw [Lib.toList_data, hnil]; rfl
    have t2 : s.toList = [] := by rw [Lib.toList_data, hnil]
    have hA : ANS = false := by rw [← hANS, hnil]; rfl
    have HA := hid hA
    clear hz hsz hnil hANS hA
    go_enter Tryz.func63, Tryz.ntmps63
    go_wp2
    go_ret
    rw [HA.out]
    exact ⟨rfl, rfl⟩
end Go.Proofs.YtnpfmoalgphkcaaGreatDoor.S3

set_option linter.unusedVariables false
namespace Go.Proofs.YtnpfmoalgphkcaaGreatDoor.S3
open Go Go.Proofs Go.RowKit Go.Lib

set_option maxHeartbeats 4000000 in
set_option maxRecDepth 100000 in
theorem refValid_any (s : ByteArray) (w : World) : Calls Tryz.prog 43 #[.string s] w fun e w' => e = .returned (.bool (validC s.data.toList)) ∧ w = w' := by
  obtain ⟨ANS, hANS⟩ : ∃ ANS, validC s.data.toList = ANS := ⟨_, rfl⟩
  rw [hANS]
  by_cases h0 : 0 < s.size
  · have hz1 : ¬ (s.size : Int) < 1 := by omega
    have hz1d : decide ((s.size : Int) < 1) = false := decide_eq_false hz1
    by_cases h16 : 16 < s.size
    · have hA : ANS = false := by rw [← hANS]; exact valid_big h16
      have hz : (16 : Int) < (s.size : Int) := by omega
      have hzd : decide ((16 : Int) < (s.size : Int)) = true := decide_eq_true hz
      have HA := hid hA
      clear hANS hA
      go_enter Tryz.func43, Tryz.ntmps43
      go_wp2
      go_ret
      rw [HA.out]
      exact ⟨rfl, rfl⟩
    · have hz : ¬ (16 : Int) < (s.size : Int) := by omega
      have hzd : decide ((16 : Int) < (s.size : Int)) = false := decide_eq_false hz
      obtain ⟨x0, hx0⟩ : ∃ x, s[0]'h0 = x := ⟨_, rfl⟩
      rcases sgn_cases x0 with ⟨g1, _, hs0⟩ | ⟨g1, _, g2, _, hs0⟩ | ⟨g1, _, g2, _, hs0⟩
      · have hA : ANS = false := by rw [← hANS]; exact valid_sign h0 (by rw [hx0]; exact hs0)
        have HA := hid hA
        clear hANS hA hs0
        go_enter Tryz.func43, Tryz.ntmps43
        go_wp2
        go_ret
        rw [HA.out]
        exact ⟨rfl, rfl⟩
      · have hA : ANS = false := by rw [← hANS]; exact valid_sign h0 (by rw [hx0]; exact hs0)
        have HA := hid hA
        clear hANS hA hs0
        go_enter Tryz.func43, Tryz.ntmps43
        go_wp2
        go_ret
        rw [HA.out]
        exact ⟨rfl, rfl⟩
      · have hA : s.data.toList.all okC = true → ANS = true := fun h => by rw [← hANS]; exact valid_yes h0 (by omega) (by rw [hx0]; exact hs0) h
        have hB : s.data.toList.all okC = false → ANS = false := fun h => by rw [← hANS]; exact validC_no h
        have HA := hid hA
        have HB := hid hB
        clear hANS hA hB hs0
        go_enter Tryz.func43, Tryz.ntmps43
        go_wp2
        clear hx0 g1 g2
        go_loop [3] (fun i => ∃ k : Nat, k ≤ s.size ∧ i = .int .i64 (k : Int) ∧ Hid ((s.data.toList.take k).all okC = true)) (fun i => s.size - (RowKit.intOf i).toNat)
        case atStart => exact ⟨0, Nat.zero_le _, rfl, hid rfl⟩
        case round =>
          obtain ⟨k, hk, rfl, hall⟩ := hrel
          by_cases hlt : k < s.size
          · have hltz : (k : Int) < (s.size : Int) := by omega
            have hsn := all_snoc s k hlt
            have hbad := all_bad s k hlt
            have cL := letter_any (s[k]'hlt)
            have cD := digit_any (s[k]'hlt)
            obtain ⟨x, hx⟩ : ∃ x, s[k]'hlt = x := ⟨_, rfl⟩
            rw [hx] at hsn hbad cL cD
            have HSN := hid hsn
            have HBAD := hid hbad
            clear hsn hbad
            have hcs : (Hid (okC x = true) ∧ (dg x = true ∨ (dg x = false ∧ ltr x = true) ∨ (dg x = false ∧ ltr x = false ∧ sgn x = true))) ∨ (Hid (okC x = false) ∧ dg x = false ∧ ltr x = false ∧ sgn x = false) := by
              unfold okC
              cases h1 : ltr x <;> cases h2 : dg x <;> cases h3 : sgn x
              · exact .inr ⟨hid rfl, rfl, rfl, rfl⟩
              · exact .inl ⟨hid rfl, .inr (.inr ⟨rfl, rfl, rfl⟩)⟩
              · exact .inl ⟨hid rfl, .inl rfl⟩
              · exact .inl ⟨hid rfl, .inl rfl⟩
              · exact .inl ⟨hid rfl, .inr (.inl ⟨rfl, rfl⟩)⟩
              · exact .inl ⟨hid rfl, .inr (.inl ⟨rfl, rfl⟩)⟩
              · exact .inl ⟨hid rfl, .inl rfl⟩
              · exact .inl ⟨hid rfl, .inl rfl⟩
            rcases hcs with ⟨ho, h1 | ⟨h1, h2⟩ | ⟨h1, h2, h3⟩⟩ | ⟨ho, h1, h2, h3⟩
            · rw [h1] at cD
              clear h1 cL
              go_wp2_with (go_at_call 67; refine (cD _).mono ?_; rintro e w' ⟨rfl, rfl⟩)
              go_round
              case rel => exact ⟨k + 1, hlt, by go_num, by rw [HSN.out, hall.out, ho.out]; exact hid rfl⟩
              case measure => simp [RowKit.intOf]; omega
            · rw [h1] at cD
              rw [h2] at cL
              clear h1 h2
              go_wp2_with (first | (go_at_call 67; refine (cD _).mono ?_; rintro e w' ⟨rfl, rfl⟩) | (go_at_call 68; refine (cL _).mono ?_; rintro e w' ⟨rfl, rfl⟩))
              go_round
              case rel => exact ⟨k + 1, hlt, by go_num, by rw [HSN.out, hall.out, ho.out]; exact hid rfl⟩
              case measure => simp [RowKit.intOf]; omega
            · rw [h1] at cD
              rw [h2] at cL
              clear h1 h2
              rcases sgn_cases x with ⟨g1, g1', _⟩ | ⟨g1, g1', g2, g2', _⟩ | ⟨_, _, _, _, h⟩
              · clear h3
                go_wp2_with (first | (go_at_call 67; refine (cD _).mono ?_; rintro e w' ⟨rfl, rfl⟩) | (go_at_call 68; refine (cL _).mono ?_; rintro e w' ⟨rfl, rfl⟩))
                go_round
                case rel => exact ⟨k + 1, hlt, by go_num, by rw [HSN.out, hall.out, ho.out]; exact hid rfl⟩
                case measure => simp [RowKit.intOf]; omega
              · clear h3
                go_wp2_with (first | (go_at_call 67; refine (cD _).mono ?_; rintro e w' ⟨rfl, rfl⟩) | (go_at_call 68; refine (cL _).mono ?_; rintro e w' ⟨rfl, rfl⟩))
                go_round
                case rel => exact ⟨k + 1, hlt, by go_num, by rw [HSN.out, hall.out, ho.out]; exact hid rfl⟩
                case measure => simp [RowKit.intOf]; omega
              · rw [h3] at h; simp at h
            · rw [h1] at cD
              rw [h2] at cL
              clear h1 h2
              rcases sgn_cases x with ⟨_, _, h⟩ | ⟨_, _, _, _, h⟩ | ⟨g1, g1', g2, g2', _⟩
              · rw [h3] at h; simp at h
              · rw [h3] at h; simp at h
              · clear h3
                go_wp2_with (first | (go_at_call 67; refine (cD _).mono ?_; rintro e w' ⟨rfl, rfl⟩) | (go_at_call 68; refine (cL _).mono ?_; rintro e w' ⟨rfl, rfl⟩))
                go_ret
                rw [HB.out (HBAD.out ho.out)]
                exact ⟨rfl, rfl⟩
          · have hltz : ¬ (k : Int) < (s.size : Int) := by omega
            have hfull : Hid (s.data.toList.all okC = true) := by
              have := hall.out
              rw [List.take_of_length_le (by rw [← Lib.size_eq]; omega)] at this
              exact hid this
            go_wp2
            go_ret
            rw [HA.out hfull.out]
            exact ⟨rfl, rfl⟩
  · have hz : (s.size : Int) < 1 := by omega
    have hzd : decide ((s.size : Int) < 1) = true := decide_eq_true hz
    have hz' : s.size = 0 := by omega
    have hsz := hz'
    rw [Lib.size_eq] at hz'
    have hnil : s.data.toList = [] := List.eq_nil_of_length_eq_zero hz'
    have hA : ANS = false := by rw [← hANS, hnil]; rfl
    have HA := hid hA
    clear hz' hsz hnil hANS hA
    go_enter Tryz.func43, Tryz.ntmps43
    go_wp2
    go_ret
    rw [HA.out]
    exact ⟨rfl, rfl⟩
end Go.Proofs.YtnpfmoalgphkcaaGreatDoor.S3

set_option linter.unusedVariables false
namespace Go.Proofs.YtnpfmoalgphkcaaGreatDoor.S3
open Go Go.Proofs Go.RowKit Go.Lib

abbrev lst (s : ByteArray) : Str := s.data.toList
theorem lst_extract (s : ByteArray) (a b : Nat) : lst (s.extract a b) = ((lst s).take b).drop a := by
  simp [lst, ByteArray.data_extract, List.extract_eq_take_drop, List.drop_take]
theorem below_drewN {B : Nat} {a w : World} (h : Below B a w) : ∀ q, Below B a (w.drewN q)
  | 0 => h
  | q + 1 => (below_drewN h q).drew

/-- What cutElement hands back. -/
def CutOut (s : ByteArray) (w : World) (e : Ending) (w' : World) : Prop :=
  (∃ X Y : ByteArray, e = .returned (.tuple #[.string X, .string Y]) ∧ lst X = (lst s).take (elemN (lst s)) ∧ lst Y = (lst s).drop (elemN (lst s))) ∧ Below w.heap.size w w'

end Go.Proofs.YtnpfmoalgphkcaaGreatDoor.S3

