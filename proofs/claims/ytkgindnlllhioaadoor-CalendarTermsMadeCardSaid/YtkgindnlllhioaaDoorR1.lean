/-
  The specification's calendar: long, Day, Parts, Weekday, first, Week. No conditions beyond those of each lemma.
-/
import Derived.Test.YtkgindnlllhioaaDoorK2
set_option linter.unusedVariables false
namespace Go.Proofs.YtkgindnlllhioaaDoor
open Go Go.Proofs Go.RowKit Go.Lib

set_option maxHeartbeats 1000000 in
theorem long_any (y m : Int) (hy : 0 ≤ y) (hy1 : y ≤ 2099) (w : World) : Calls Tryd.prog 37 #[.int .i64 y, .int .i64 m] w fun e w' => e = .returned (.int .i64 (Cal.long y m)) ∧ w = w' := by
  by_cases h2 : m = 2
  · subst h2
    have hne : (y == 2100) = false := by simp; omega
    by_cases hl : y % 4 = 0
    all_goals
      go_enter Tryd.func37, Tryd.ntmps37
      go_wp2
      go_ret
      exact ⟨ret_int (by simp [Cal.long, Cal.lp, hl]), rfl⟩
  · by_cases h : m = 4 ∨ m = 6 ∨ m = 9 ∨ m = 11
    · rcases h with h | h | h | h <;> subst h
      all_goals
        go_enter Tryd.func37, Tryd.ntmps37
        go_wp2
        go_ret
        exact ⟨ret_int (by simp [Cal.long]), rfl⟩
    · have e : Cal.long y m = 31 := by unfold Cal.long; rw [if_neg h2, if_neg h]
      rw [e]
      have h4 : (m == 4) = false := by simp; omega
      have h6 : (m == 6) = false := by simp; omega
      have h9 : (m == 9) = false := by simp; omega
      have h11 : (m == 11) = false := by simp; omega
      have h2' : (m == 2) = false := by simp; omega
      clear e h h2
      go_enter Tryd.func37, Tryd.ntmps37
      go_wp2
      go_ret
      exact ⟨rfl, rfl⟩
theorem long2 (y : Int) : 337 + Cal.long y 2 = 365 + Cal.lp y := by simp [Cal.long]; omega
set_option maxHeartbeats 2000000 in
theorem refDay_yes (y m d : Int) (hd : Cal.Date y m d) (w : World) : Calls Tryd.prog 9 #[.int .i64 y, .int .i64 m, .int .i64 d] w fun e w' => e = .returned (.tuple #[.int .i64 (Cal.num y m d), .int .i64 0]) ∧ w = w' := by
  have hy0 := hd.y0
  have hy1 := hd.y1
  have hm0 := hd.m0
  have hm1 := hd.m1
  have hd0 := hd.d0
  have hd1 := hd.d1
  have hl := (Cal.long_bd y m).2
  have c3 := hid (fun k m h0 h1 w => long_any k m h0 h1 w)
  have HD := hid hd
  clear hd
  go_enter Tryd.func9, Tryd.ntmps9
  go_wp2_with (with_reducible (refine (c3.out _ _ (by omega) (by omega) _).mono ?_); rintro e w' ⟨rfl, rfl⟩)
  go_loop [8, 9] (fun t i => ∃ k : Int, 2000 ≤ k ∧ k ≤ y ∧ i = .int .i64 k ∧ t = .int .i64 (Cal.fo k + (d - 1))) (fun _ i => (2100 - intOf i).toNat)
  case atStart => exact ⟨2000, by omega, by omega, rfl, by rw [Cal.fo_2000]; simp⟩
  case round =>
    obtain ⟨k, hk0, hk1, rfl, rfl⟩ := hrel
    have hf := Cal.fo_bd k (by omega) (by omega)
    have hl2 := Cal.long_bd k 2
    have hs := hid (Cal.fo_succ k)
    have h2 := hid (long2 k)
    by_cases hlt : k < y
    · go_wp2_with (with_reducible (refine (c3.out _ _ (by omega) (by omega) _).mono ?_); rintro e w' ⟨rfl, rfl⟩)
      go_round
      case rel => exact ⟨k + 1, by omega, by omega, rfl, by have := hs.out; have := h2.out; congr 1; omega⟩
      case measure => simp [intOf]; omega
    · obtain rfl : k = y := by omega
      go_wp2
      go_loop [8, 10] (fun t i => ∃ j : Int, 1 ≤ j ∧ j ≤ m ∧ i = .int .i64 j ∧ t = .int .i64 (Cal.fo k + (d - 1) + Cal.cum k j)) (fun _ i => (13 - intOf i).toNat)
      case atStart => exact ⟨1, by omega, by omega, rfl, by simp [Cal.cum]⟩
      case round =>
        obtain ⟨j, hj0, hj1, rfl, rfl⟩ := hrel
        have hb1 := Cal.cum_bd k j (by omega) (by omega)
        have hb2 := Cal.long_bd k j
        have hs := hid (Cal.cum_succ k j (by omega) (by omega))
        by_cases hlt : j < m
        · go_wp2_with (with_reducible (refine (c3.out _ _ (by omega) (by omega) _).mono ?_); rintro e w' ⟨rfl, rfl⟩)
          go_round
          case rel => exact ⟨j + 1, by omega, by omega, rfl, by have := hs.out; congr 1; omega⟩
          case measure => simp [intOf]; omega
        · obtain rfl : j = m := by omega
          have hn : Hid (Cal.num k j d = Cal.fo k + (d - 1) + Cal.cum k j) := hid (by unfold Cal.num; omega)
          go_wp2
          go_ret2
          exact ⟨by rw [hn.out]; rfl, rfl⟩
set_option maxHeartbeats 2000000 in
theorem refDay_no (y m d : Int) (hd : dateB y m d = false) (w : World) : Calls Tryd.prog 9 #[.int .i64 y, .int .i64 m, .int .i64 d] w fun e w' => e = .returned (.tuple #[.int .i64 0, .int .i64 13]) ∧ w = w' := by
  have h := of_decide_eq_false hd
  clear hd
  have c3 := hid (fun k m h0 h1 w => long_any k m h0 h1 w)
  by_cases h1 : y < 2000
  · clear h
    go_enter Tryd.func9, Tryd.ntmps9
    go_wp2
    go_ret2
    exact ⟨rfl, rfl⟩
  have h1' : decide (y < 2000) = false := by simpa using h1
  by_cases h2 : 2099 < y
  · clear h h1
    go_enter Tryd.func9, Tryd.ntmps9
    go_wp2
    go_ret2
    exact ⟨rfl, rfl⟩
  have h2' : decide (2099 < y) = false := by simpa using h2
  by_cases h3 : m < 1
  · clear h h1 h2
    go_enter Tryd.func9, Tryd.ntmps9
    go_wp2
    go_ret2
    exact ⟨rfl, rfl⟩
  have h3' : decide (m < 1) = false := by simpa using h3
  by_cases h4 : 12 < m
  · clear h h1 h2 h3
    go_enter Tryd.func9, Tryd.ntmps9
    go_wp2
    go_ret2
    exact ⟨rfl, rfl⟩
  have h4' : decide (12 < m) = false := by simpa using h4
  by_cases h5 : d < 1
  · clear h h1 h2 h3 h4
    go_enter Tryd.func9, Tryd.ntmps9
    go_wp2
    go_ret2
    exact ⟨rfl, rfl⟩
  have h5' : decide (d < 1) = false := by simpa using h5
  have h6 : Cal.long y m < d := by omega
  clear h
  go_enter Tryd.func9, Tryd.ntmps9
  go_wp2_with (with_reducible (refine (c3.out _ _ (by omega) (by omega) _).mono ?_); rintro e w' ⟨rfl, rfl⟩)
  go_ret2
  exact ⟨rfl, rfl⟩

theorem refParts_no (day : Int) (h : dayB day = false) (w : World) : Calls Tryd.prog 11 #[.int .i64 day] w fun e w' => e = .returned (.tuple #[.int .i64 0, .int .i64 0, .int .i64 0, .int .i64 13]) ∧ w = w' := by
  have c1 := hid (fun w => valid_any day w)
  rw [h] at c1
  clear h
  go_enter Tryd.func11, Tryd.ntmps11
  go_wp2_with fail
  refine (c1.out _).mono ?_
  rintro e w' ⟨rfl, rfl⟩
  go_wp2
  refine bodyPost_ret (results_tmp4 rfl _ _ _) rfl ?_
  exact ⟨rfl, rfl⟩
set_option maxHeartbeats 2000000 in
theorem refParts_yes (day : Int) (h0 : 0 ≤ day) (h1 : day ≤ 36524) (w : World) : Calls Tryd.prog 11 #[.int .i64 day] w (IsDate day w) := by
  have hb := hid (dayB_yes h0 h1)
  have c1 := hid (fun w => valid_any day w)
  have c3 := hid (fun k m h0 h1 w => long_any k m h0 h1 w)
  rw [hb.out] at c1
  go_enter Tryd.func11, Tryd.ntmps11
  go_wp2_with fail
  refine (c1.out _).mono ?_
  rintro e w' ⟨rfl, rfl⟩
  go_wp2
  go_loop [0, 6, 7] (fun r yy mm => ∃ y m rest : Int, 2000 ≤ y ∧ y ≤ 2099 ∧ 1 ≤ m ∧ m ≤ 12 ∧ yy = .int .i64 y ∧ mm = .int .i64 m ∧ r = .int .i64 rest ∧ 0 ≤ rest ∧ rest ≤ 36524 ∧ Cal.fo y + Cal.cum y m + rest = day) (fun _ y m => (40000 - 12 * intOf y - intOf m).toNat)
  case atStart => exact ⟨2000, 1, day, by omega, by omega, by omega, by omega, rfl, rfl, rfl, by omega, by omega, by rw [Cal.fo_2000]; simp [Cal.cum]⟩
  case round =>
    obtain ⟨y, m, rest, hy0, hy1, hm0, hm1, rfl, rfl, rfl, hr0, hr1, hr2⟩ := hrel
    have HR := hid hr2
    have hb2 := Cal.long_bd y m
    have hs := hid (Cal.cum_succ y m (by omega) (by omega))
    clear hr2
    by_cases hlt : rest < Cal.long y m
    · go_wp2_with (with_reducible (refine (c3.out _ _ (by omega) (by omega) _).mono ?_); rintro e w' ⟨rfl, rfl⟩)
      refine bodyPost_ret (results_tmp4 rfl _ _ _) rfl ?_
      exact ⟨⟨y, m, rest + 1, ⟨by omega, by omega, hm0, hm1, by omega, by omega⟩, by have := HR.out; unfold Cal.num; omega, rfl⟩, rfl⟩
    · by_cases hm : m < 12
      · have hm' : decide (12 < m + 1) = false := by simp; omega
        go_wp2_with (with_reducible (refine (c3.out _ _ (by omega) (by omega) _).mono ?_); rintro e w' ⟨rfl, rfl⟩)
        go_round
        case rel => exact ⟨y, m + 1, rest - Cal.long y m, by omega, by omega, by omega, by omega, rfl, rfl, rfl, by omega, by omega, by have := hs.out; have := HR.out; omega⟩
        case measure => simp [intOf]; omega
      · obtain rfl : m = 12 := by omega
        have hy : y < 2099 := by
          have a := hs.out
          have b := Cal.cum_13 y
          have c := HR.out
          have d := Cal.fo_succ y
          simp at a
          rcases Int.lt_or_le y 2099 with h | h
          · exact h
          · have := Cal.fo_mono 2100 (y + 1) (by omega)
            rw [Cal.fo_2100] at this
            omega
        have hr : Hid (Cal.fo (y + 1) + Cal.cum (y + 1) 1 + (rest - Cal.long y 12) = day) := hid (by
          have a := hs.out
          have b := Cal.cum_13 y
          have c := HR.out
          have d := Cal.fo_succ y
          have e := Cal.cum_one (y + 1)
          simp at a
          omega)
        go_wp2_with (with_reducible (refine (c3.out _ _ (by omega) (by omega) _).mono ?_); rintro e w' ⟨rfl, rfl⟩)
        go_round
        case rel => exact ⟨y + 1, 1, rest - Cal.long y 12, by omega, by omega, by omega, by omega, rfl, rfl, rfl, by omega, by omega, hr.out⟩
        case measure => simp [intOf]; omega
theorem refWeekday_any (day : Int) (w : World) : Calls Tryd.prog 16 #[.int .i64 day] w fun e w' => e = .returned (.int .i64 (wdM day)) ∧ w = w' := by
  have c1 := hid (fun w => valid_any day w)
  by_cases h : 0 ≤ day ∧ day ≤ 36524
  · obtain ⟨h0, h1⟩ := h
    have hb := dayB_yes h0 h1
    rw [hb] at c1
    have e : wdM day = (day + 5) % 7 := by unfold wdM; rw [hb]; rfl
    rw [e]
    clear hb e
    go_enter Tryd.func16, Tryd.ntmps16
    go_wp2_with fail
    refine (c1.out _).mono ?_
    rintro e w' ⟨rfl, rfl⟩
    go_wp2
    go_ret
    exact ⟨rfl, rfl⟩
  · have hb := dayB_no h
    rw [hb] at c1
    have e : wdM day = -1 := by unfold wdM; rw [hb]; rfl
    rw [e]
    clear hb e
    go_enter Tryd.func16, Tryd.ntmps16
    go_wp2_with fail
    refine (c1.out _).mono ?_
    rintro e w' ⟨rfl, rfl⟩
    go_wp2
    go_ret
    exact ⟨rfl, rfl⟩
set_option maxHeartbeats 2000000 in
theorem first_any (year : Int) (h0 : 1999 ≤ year) (h1 : year ≤ 2100) (w : World) : Calls Tryd.prog 41 #[.int .i64 year] w fun e w' => e = .returned (.int .i64 (Cal.mon1 year)) ∧ w = w' := by
  have c3 := hid (fun k m h0 h1 w => long_any k m h0 h1 w)
  by_cases h99 : year = 1999
  · subst h99
    go_enter Tryd.func41, Tryd.ntmps41
    go_wp2
    go_loop [3, 4] (fun t i => i = .int .i64 2000 ∧ t = .int .i64 3) (fun _ i => 0)
    case atStart => exact ⟨rfl, rfl⟩
    case round =>
      obtain ⟨rfl, rfl⟩ := hrel
      go_wp2
      go_ret
      exact ⟨ret_int (by decide), rfl⟩
  · have hne : (year == 1999) = false := by simp; omega
    go_enter Tryd.func41, Tryd.ntmps41
    go_wp2
    go_loop [3, 4] (fun t i => ∃ k : Int, 2000 ≤ k ∧ k ≤ year ∧ i = .int .i64 k ∧ t = .int .i64 (Cal.fo k + 3)) (fun _ i => (2200 - intOf i).toNat)
    case atStart => exact ⟨2000, by omega, by omega, rfl, by rw [Cal.fo_2000]; rfl⟩
    case round =>
      obtain ⟨k, hk0, hk1, rfl, rfl⟩ := hrel
      have hf := Cal.fo_bd k (by omega) (by omega)
      have hl2 := Cal.long_bd k 2
      have hs := hid (Cal.fo_succ k)
      have h2 := hid (long2 k)
      by_cases hlt : k < year
      · go_wp2_with (with_reducible (refine (c3.out _ _ (by omega) (by omega) _).mono ?_); rintro e w' ⟨rfl, rfl⟩)
        go_round
        case rel => exact ⟨k + 1, by omega, by omega, rfl, by have := hs.out; have := h2.out; congr 1; omega⟩
        case measure => simp [intOf]; omega
      · obtain rfl : k = year := by omega
        have hf0 : 0 ≤ Cal.fo k := by have := Cal.fo_mono 2000 k (by omega); rw [Cal.fo_2000] at this; exact this
        go_wp2
        go_ret
        exact ⟨ret_int (by unfold Cal.mon1; omega), rfl⟩
theorem refWeek_no (day : Int) (h : dayB day = false) (w : World) : Calls Tryd.prog 13 #[.int .i64 day] w fun e w' => e = .returned (.tuple #[.int .i64 0, .int .i64 0, .int .i64 13]) ∧ w = w' := by
  have c1 := hid (fun w => valid_any day w)
  rw [h] at c1
  clear h
  go_enter Tryd.func13, Tryd.ntmps13
  go_wp2_with fail
  refine (c1.out _).mono ?_
  rintro e w' ⟨rfl, rfl⟩
  go_wp2
  go_ret3
  exact ⟨rfl, rfl⟩
set_option maxHeartbeats 2000000 in
theorem refWeek_yes (day : Int) (h0 : 0 ≤ day) (h1 : day ≤ 36524) (w : World) : Calls Tryd.prog 13 #[.int .i64 day] w fun e w' => e = .returned (.tuple #[.int .i64 (Cal.wy day), .int .i64 (Cal.wn day), .int .i64 0]) ∧ w = w' := by
  have hb := hid (dayB_yes h0 h1)
  have c1 := hid (fun w => valid_any day w)
  have c2 := hid (fun w => refParts_yes day h0 h1 w)
  have c3 := hid (fun k h0 h1 w => first_any k h0 h1 w)
  rw [hb.out] at c1
  go_enter Tryd.func13, Tryd.ntmps13
  go_wp2_with fail
  refine (c1.out _).mono ?_
  rintro e w' ⟨rfl, rfl⟩
  go_wp2_with fail
  refine (c2.out _).mono ?_
  rintro e w' ⟨⟨y, m, d, hD, hn, rfl⟩, rfl⟩
  have hy0 := hD.y0
  have hy1 := hD.y1
  have hyo := hD.year
  rw [hn] at hyo
  have hys := Cal.yo_spec day
  rw [hyo] at hys
  obtain ⟨hA, hB, hC⟩ := Cal.week_ref day y hys.1 hys.2
  have hb0 := Cal.mon1_bd y
  have hb1 := Cal.mon1_bd (y + 1)
  have hb2 := Cal.mon1_bd (y - 1)
  have hf0 := Cal.fo_bd y (by omega) (by omega)
  have hf1 := Cal.fo_bd (y + 1) (by omega) (by omega)
  have hf2 := Cal.fo_bd (y - 1) (by omega) (by omega)
  by_cases hlt : day < Cal.mon1 y
  · obtain ⟨ea, eb⟩ := hA hlt
    have EA := hid ea
    have EB := hid eb
    have hsp : Cal.mon1 (y - 1) ≤ day := by
      have := Cal.fo_lt (y - 1) y (by omega)
      omega
    have hge : day - Cal.mon1 (y - 1) ≤ 400 := by
      have h7 := Cal.fo_succ (y - 1)
      have h8 := Cal.lp_01 (y - 1)
      rw [show y - 1 + 1 = y by omega] at h7
      omega
    clear hA hB hC ea eb hD hn hyo
    go_wp2_with (with_reducible (refine (c3.out _ (by omega) (by omega) _).mono ?_); rintro e w' ⟨rfl, rfl⟩)
    go_ret3
    exact ⟨by rw [EA.out, EB.out]; rfl, rfl⟩
  · by_cases hge : Cal.mon1 (y + 1) ≤ day
    · obtain ⟨ea, eb⟩ := hB hlt hge
      have EA := hid ea
      have EB := hid eb
      clear hA hB hC ea eb hD hn hyo
      go_wp2_with (with_reducible (refine (c3.out _ (by omega) (by omega) _).mono ?_); rintro e w' ⟨rfl, rfl⟩)
      go_ret3
      exact ⟨by rw [EA.out, EB.out]; rfl, rfl⟩
    · obtain ⟨ea, eb⟩ := hC hlt hge
      have EA := hid ea
      have EB := hid eb
      clear hA hB hC ea eb hD hn hyo
      go_wp2_with (with_reducible (refine (c3.out _ (by omega) (by omega) _).mono ?_); rintro e w' ⟨rfl, rfl⟩)
      go_ret3
      exact ⟨by rw [EA.out, EB.out]; rfl, rfl⟩
end Go.Proofs.YtkgindnlllhioaaDoor
