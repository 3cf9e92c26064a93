/-
  Whether a string is a code: the program's Valid and the reference's. Conditions: none.
-/
import Derived.Test.YtldnbneblpebiaaGreatDoorC1
set_option linter.unusedVariables false
namespace Go.Proofs.YtldnbneblpebiaaGreatDoor
open Go Go.Proofs Go.RowKit Go.Lib

theorem okC_cases (x : UInt8) : (ltr x = true ∧ Hid (okC x = true)) ∨ (ltr x = false ∧ dg x = true ∧ Hid (okC x = true)) ∨ (ltr x = false ∧ dg x = false ∧ sgn x = true ∧ Hid (okC x = true)) ∨ (ltr x = false ∧ dg x = false ∧ sgn x = false ∧ Hid (okC x = false)) := by
  unfold okC
  cases h1 : ltr x
  · cases h2 : dg x
    · cases h3 : sgn x
      · exact .inr (.inr (.inr ⟨rfl, rfl, rfl, hid rfl⟩))
      · exact .inr (.inr (.inl ⟨rfl, rfl, rfl, hid rfl⟩))
    · exact .inr (.inl ⟨rfl, rfl, hid rfl⟩)
  · exact .inl ⟨rfl, hid rfl⟩

set_option maxHeartbeats 4000000 in
set_option maxRecDepth 100000 in
theorem valid_any (s : ByteArray) (w : World) : Calls Tryz.prog 10 #[.string s] w fun e w' => e = .returned (.bool (validC s.data.toList)) ∧ w = w' := by
  obtain ⟨ANS, hANS⟩ : ∃ ANS, validC s.data.toList = ANS := ⟨_, rfl⟩
  rw [hANS]
  by_cases h0 : 0 < s.size
  · have hne : s.data.toList ≠ [] := fun e => by rw [Lib.size_eq, e] at h0; simp at h0
    have t1 : (s.toList == []) = false := by rw [Lib.toList_data]; simpa using hne
    have t2 : (!s.toList.isEmpty) = true := by rw [Lib.toList_data]; simpa using hne
    by_cases h16 : 16 < s.size
    · have hA : ANS = false := by rw [← hANS]; exact valid_big h16
      have hz : (16 : Int) < (s.size : Int) := by omega
      have hzd : decide ((16 : Int) < (s.size : Int)) = true := decide_eq_true hz
      have HA := hid hA
      clear hne hANS hA
      go_enter Tryz.func10, Tryz.ntmps10
      go_wp2
      go_ret
      rw [HA.out]
      exact ⟨rfl, rfl⟩
    · have hz : ¬ (16 : Int) < (s.size : Int) := by omega
      have hzd : decide ((16 : Int) < (s.size : Int)) = false := decide_eq_false hz
      have cS := isSign_any (s[0]'h0)
      cases hs0 : sgn (s[0]'h0) with
      | true =>
        have hA : ANS = false := by rw [← hANS]; exact valid_sign h0 hs0
        have HA := hid hA
        rw [hs0] at cS
        obtain ⟨x, hx⟩ : ∃ x, s[0]'h0 = x := ⟨_, rfl⟩
        rw [hx] at cS
        clear hne hANS hA hs0
        go_enter Tryz.func10, Tryz.ntmps10
        go_wp2_with (go_at_call 26; refine (cS _).mono ?_; rintro e w' ⟨rfl, rfl⟩)
        go_ret
        rw [HA.out]
        exact ⟨rfl, rfl⟩
      | false =>
        rw [hs0] at cS
        have hA : s.data.toList.all okC = true → ANS = true := fun h => by rw [← hANS]; exact valid_yes h0 (by omega) hs0 h
        have hB : s.data.toList.all okC = false → ANS = false := fun h => by rw [← hANS]; exact validC_no h
        have HA := hid hA
        have HB := hid hB
        have CS := hid cS
        obtain ⟨x0, hx0⟩ : ∃ x, s[0]'h0 = x := ⟨_, rfl⟩
        rw [hx0] at CS
        clear hne hANS hA hB hs0 cS
        have cS := CS.out
        go_enter Tryz.func10, Tryz.ntmps10
        go_wp2_with (go_at_call 26; refine (cS _).mono ?_; rintro e w' ⟨rfl, rfl⟩)
        clear cS CS hx0
        go_loop [3, 18] (fun _ i => ∃ k : Nat, k ≤ s.size ∧ i = .int .i64 (k : Int) ∧ Hid ((s.data.toList.take k).all okC = true)) (fun _ i => s.size - (RowKit.intOf i).toNat)
        case atStart => exact ⟨0, Nat.zero_le _, rfl, hid rfl⟩
        case round =>
          obtain ⟨k, hk, rfl, hall⟩ := hrel
          by_cases hlt : k < s.size
          · have hltz : (k : Int) < (s.size : Int) := by omega
            have hsn := all_snoc s k hlt
            have hbad := all_bad s k hlt
            have cL := isLetter_any (s[k]'hlt)
            have cD := isDigit_any (s[k]'hlt)
            have cG := isSign_any (s[k]'hlt)
            obtain ⟨x, hx⟩ : ∃ x, s[k]'hlt = x := ⟨_, rfl⟩
            rw [hx] at hsn hbad cL cD cG
            have HSN := hid hsn
            have HBAD := hid hbad
            clear hsn hbad
            rcases okC_cases x with ⟨h1, ho⟩ | ⟨h1, h2, ho⟩ | ⟨h1, h2, h3, ho⟩ | ⟨h1, h2, h3, ho⟩
            · rw [h1] at cL
              clear h1 cD cG
              go_wp2_with (go_at_call 27; refine (cL _).mono ?_; rintro e w' ⟨rfl, rfl⟩)
              go_round
              case rel => exact ⟨k + 1, hlt, by go_num, by rw [HSN.out, hall.out, ho.out]; exact hid rfl⟩
              case measure => simp [RowKit.intOf]; omega
            · rw [h1] at cL
              rw [h2] at cD
              clear h1 h2 cG
              go_wp2_with (first | (go_at_call 27; refine (cL _).mono ?_; rintro e w' ⟨rfl, rfl⟩) | (go_at_call 28; refine (cD _).mono ?_; rintro e w' ⟨rfl, rfl⟩))
              go_round
              case rel => exact ⟨k + 1, hlt, by go_num, by rw [HSN.out, hall.out, ho.out]; exact hid rfl⟩
              case measure => simp [RowKit.intOf]; omega
            · rw [h1] at cL
              rw [h2] at cD
              rw [h3] at cG
              clear h1 h2 h3
              go_wp2_with (first | (go_at_call 27; refine (cL _).mono ?_; rintro e w' ⟨rfl, rfl⟩) | (go_at_call 28; refine (cD _).mono ?_; rintro e w' ⟨rfl, rfl⟩) | (go_at_call 26; refine (cG _).mono ?_; rintro e w' ⟨rfl, rfl⟩))
              go_round
              case rel => exact ⟨k + 1, hlt, by go_num, by rw [HSN.out, hall.out, ho.out]; exact hid rfl⟩
              case measure => simp [RowKit.intOf]; omega
            · rw [h1] at cL
              rw [h2] at cD
              rw [h3] at cG
              clear h1 h2 h3
              go_wp2_with (first | (go_at_call 27; refine (cL _).mono ?_; rintro e w' ⟨rfl, rfl⟩) | (go_at_call 28; refine (cD _).mono ?_; rintro e w' ⟨rfl, rfl⟩) | (go_at_call 26; refine (cG _).mono ?_; rintro e w' ⟨rfl, rfl⟩))
              go_ret
              rw [HB.out (HBAD.out ho.out)]
              exact ⟨rfl, rfl⟩
          · have hltz : ¬ (k : Int) < (s.size : Int) := by omega
            have hfull : Hid (s.data.toList.all okC = true) := by
              have := hall.out
              rw [List.take_of_length_le (by rw [← Lib.size_eq]; omega)] at this
              exact hid this
            go_wp2
            go_ret
            rw [HA.out hfull.out]
            exact ⟨rfl, rfl⟩
  · have hz : s.size = 0 := by omega
    have hsz := hz
    rw [Lib.size_eq] at hz
    have hnil : s.data.toList = [] := List.eq_nil_of_length_eq_zero hz
    have t1 : (s.toList == []) = true := by rw [Lib.toList_data, hnil]; rfl
    have t2 : s.toList = [] := by rw [Lib.toList_data, hnil]
    have hA : ANS = false := by rw [← hANS, hnil]; rfl
    have HA := hid hA
    clear hz hsz hnil hANS hA
    go_enter Tryz.func10, Tryz.ntmps10
    go_wp2
    go_ret
    rw [HA.out]
    exact ⟨rfl, rfl⟩
end Go.Proofs.YtldnbneblpebiaaGreatDoor
