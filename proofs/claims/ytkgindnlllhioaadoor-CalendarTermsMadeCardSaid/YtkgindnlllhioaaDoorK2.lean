/-
  The program's calendar: isDate, Day, Parts, Weekday, Week. Conditions: the table of the months' lengths lies in memory as the text says.
-/
import Derived.Test.YtkgindnlllhioaaDoorK1
import Derived.LoopTactic
set_option linter.unusedVariables false
namespace Go.Proofs.YtkgindnlllhioaaDoor
open Go Go.Proofs Go.RowKit Go.Lib

def dateB (y m d : Int) : Bool := decide (2000 ≤ y ∧ y ≤ 2099 ∧ 1 ≤ m ∧ m ≤ 12 ∧ 1 ≤ d ∧ d ≤ Cal.long y m)
theorem dateB_date {y m d : Int} (h : dateB y m d = true) : Cal.Date y m d := by
  obtain ⟨a, b, c, e, f, g⟩ := of_decide_eq_true h
  exact ⟨a, b, c, e, f, g⟩
theorem Cal.Date.b {y m d : Int} (h : Cal.Date y m d) : dateB y m d = true := decide_eq_true ⟨h.y0, h.y1, h.m0, h.m1, h.d0, h.d1⟩
theorem dateB_no {y m d : Int} (h : ¬ (2000 ≤ y ∧ y ≤ 2099 ∧ 1 ≤ m ∧ m ≤ 12 ∧ 1 ≤ d ∧ d ≤ Cal.long y m)) : dateB y m d = false := decide_eq_false h
set_option maxHeartbeats 1000000 in
theorem isDate_any (y m d : Int) (w : World) (hT : Tab w) : Calls Tryd.prog 34 #[.int .i64 y, .int .i64 m, .int .i64 d] w fun e w' => e = .returned (.bool (dateB y m d)) ∧ w = w' := by
  by_cases h1 : 2000 ≤ y
  · by_cases h2 : y ≤ 2099
    · by_cases h3 : 1 ≤ m
      · by_cases h4 : m ≤ 12
        · by_cases h5 : 1 ≤ d
          · have c := hid (fun w hT => lengthOf_any y m (by omega) h3 h4 w hT)
            have HT := hid hT
            clear hT
            obtain ⟨R, hR⟩ : ∃ R, dateB y m d = R := ⟨_, rfl⟩
            rw [hR]
            have HR : Hid (decide (d ≤ Cal.long y m) = R) := hid (by rw [← hR]; unfold dateB; simp [h1, h2, h3, h4, h5])
            clear hR
            go_enter Tryd.func34, Tryd.ntmps34
            go_wp2_with (with_reducible (refine (c.out _ HT.out).mono ?_); rintro e w' ⟨rfl, rfl⟩)
            go_ret
            exact ⟨by rw [← HR.out]; rfl, rfl⟩
          · rw [dateB_no (by omega)]
            have h5' : decide (1 ≤ d) = false := by simpa using h5
            go_enter Tryd.func34, Tryd.ntmps34
            go_wp2
            go_ret
            exact ⟨by simp, rfl⟩
        · rw [dateB_no (by omega)]
          have h5' : decide (m ≤ 12) = false := by simpa using h4
          go_enter Tryd.func34, Tryd.ntmps34
          go_wp2
          go_ret
          exact ⟨by simp, rfl⟩
      · rw [dateB_no (by omega)]
        have h5' : decide (1 ≤ m) = false := by simpa using h3
        go_enter Tryd.func34, Tryd.ntmps34
        go_wp2
        go_ret
        exact ⟨by simp, rfl⟩
    · rw [dateB_no (by omega)]
      have h5' : decide (y ≤ 2099) = false := by simpa using h2
      go_enter Tryd.func34, Tryd.ntmps34
      go_wp2
      go_ret
      exact ⟨by simp, rfl⟩
  · rw [dateB_no (by omega)]
    have h5' : decide (2000 ≤ y) = false := by simpa using h1
    go_enter Tryd.func34, Tryd.ntmps34
    go_wp2
    go_ret
    exact ⟨by simp, rfl⟩

set_option maxHeartbeats 2000000 in
theorem day_yes (y m d : Int) (hd : Cal.Date y m d) (w : World) (hT : Tab w) : Calls Tryd.prog 8 #[.int .i64 y, .int .i64 m, .int .i64 d] w fun e w' => e = .returned (.tuple #[.int .i64 (Cal.num y m d), .int .i64 0]) ∧ w = w' := by
  have hy0 := hd.y0
  have hy1 := hd.y1
  have hm0 := hd.m0
  have hm1 := hd.m1
  have hd0 := hd.d0
  have hd1 := hd.d1
  have hb := hid hd.b
  have hl := (Cal.long_bd y m).2
  have hf := Cal.fo_bd y (by omega) (by omega)
  have c1 := hid (fun w hT => isDate_any y m d w hT)
  have c2 := hid (fun w => firstOf_any y (by omega) (by omega) w)
  have c3 := hid (fun k h0 h1 w hT => lengthOf_any y k (by omega) h0 h1 w hT)
  rw [hb.out] at c1
  have HT := hid hT
  have HD := hid hd
  clear hT hd
  go_enter Tryd.func8, Tryd.ntmps8
  go_wp2_with fail
  refine (c1.out _ HT.out).mono ?_
  rintro e w' ⟨rfl, rfl⟩
  go_wp2_with fail
  refine (c2.out _).mono ?_
  rintro e w' ⟨rfl, rfl⟩
  go_wp2
  go_loop [8, 22] (fun t i => ∃ k : Int, 0 ≤ k ∧ k ≤ m - 1 ∧ i = .int .i64 k ∧ t = .int .i64 (Cal.num y (k + 1) d)) (fun _ i => (12 - intOf i).toNat)
  case atStart => exact ⟨0, by omega, by omega, rfl, by simp [Cal.num, Cal.cum]⟩
  case round =>
    obtain ⟨k, hk0, hk1, rfl, rfl⟩ := hrel
    have hb1 := Cal.cum_bd y (k + 1) (by omega) (by omega)
    have hb2 := Cal.long_bd y (k + 1)
    have hs := hid (Cal.cum_succ y (k + 1) (by omega) (by omega))
    have hn0 : Cal.num y (k + 1) d = Cal.fo y + Cal.cum y (k + 1) + d - 1 := rfl
    have hn1 : -2000 ≤ Cal.num y (k + 1) d ∧ Cal.num y (k + 1) d ≤ 40000 := by omega
    clear hn0
    by_cases hlt : k < m - 1
    · go_wp2_with (with_reducible (refine (c3.out _ (by omega) (by omega) _ HT.out).mono ?_); rintro e w' ⟨rfl, rfl⟩)
      go_round
      case rel => exact ⟨k + 1, by omega, by omega, rfl, by have := hs.out; unfold Cal.num; rw [this]; congr 1; omega⟩
      case measure => simp [intOf]; omega
    · obtain rfl : k = m - 1 := by omega
      go_wp2
      go_ret2
      exact ⟨rfl, rfl⟩
theorem day_no (y m d : Int) (hd : dateB y m d = false) (w : World) (hT : Tab w) : Calls Tryd.prog 8 #[.int .i64 y, .int .i64 m, .int .i64 d] w fun e w' => e = .returned (.tuple #[.int .i64 0, .int .i64 13]) ∧ w = w' := by
  have c1 := hid (fun w hT => isDate_any y m d w hT)
  rw [hd] at c1
  have HT := hid hT
  clear hT hd
  go_enter Tryd.func8, Tryd.ntmps8
  go_wp2_with fail
  refine (c1.out _ HT.out).mono ?_
  rintro e w' ⟨rfl, rfl⟩
  go_wp2
  go_ret2
  exact ⟨rfl, rfl⟩

/-- What Parts returns of a day. -/
def IsDate (day : Int) (w : World) (e : Ending) (w' : World) : Prop := (∃ y m d : Int, Cal.Date y m d ∧ Cal.num y m d = day ∧ e = .returned (.tuple #[.int .i64 y, .int .i64 m, .int .i64 d, .int .i64 0])) ∧ w = w'
theorem results_tmp4 {fn : Func} {t u v x : Tmp} (h : fn.results = #[.tmp t, .tmp u, .tmp v, .tmp x]) (tmps : Array Value) (P : Program) (w : World) :
    (results fn tmps).run P w = .ok (.tuple #[tmps.getD t undef, tmps.getD u undef, tmps.getD v undef, tmps.getD x undef]) w := by simp [results, h]
set_option maxHeartbeats 2000000 in
theorem parts_yes (day : Int) (h0 : 0 ≤ day) (h1 : day ≤ 36524) (w : World) (hT : Tab w) : Calls Tryd.prog 10 #[.int .i64 day] w (IsDate day w) := by
  have hb := hid (dayB_yes h0 h1)
  have hyb := Cal.yo_bd day h0 h1
  have hys := Cal.yo_spec day
  have hfs := Cal.fo_succ (Cal.yo day)
  have hf := Cal.fo_bd (Cal.yo day) (by omega) (by omega)
  have hlp := Cal.lp_01 (Cal.yo day)
  have c1 := hid (fun w => isDay_any day w)
  have c2 := hid (fun w => yearOf_any day (by omega) (by omega) w)
  have c3 := hid (fun w => firstOf_any (Cal.yo day) (by omega) (by omega) w)
  have c4 := hid (fun k h0 h1 w hT => lengthOf_any (Cal.yo day) k (by omega) h0 h1 w hT)
  rw [hb.out] at c1
  have HT := hid hT
  have HFS := hid hfs
  clear hT hfs
  generalize Cal.yo day = y at *
  go_enter Tryd.func10, Tryd.ntmps10
  go_wp2_with fail
  refine (c1.out _).mono ?_
  rintro e w' ⟨rfl, rfl⟩
  go_wp2_with fail
  refine (c2.out _).mono ?_
  rintro e w' ⟨rfl, rfl⟩
  go_wp2_with fail
  refine (c3.out _).mono ?_
  rintro e w' ⟨rfl, rfl⟩
  go_wp2
  go_loop [3, 6] (fun mm r => ∃ m rest : Int, 1 ≤ m ∧ m ≤ 12 ∧ mm = .int .i64 m ∧ r = .int .i64 rest ∧ 0 ≤ rest ∧ rest ≤ 400 ∧ Cal.fo y + Cal.cum y m + rest = day) (fun m _ => (12 - intOf m).toNat)
  case atStart => exact ⟨1, _, by omega, by omega, rfl, rfl, by omega, by have := HFS.out; omega, by simp [Cal.cum]; omega⟩
  case round =>
    obtain ⟨m, rest, hm0, hm1, rfl, rfl, hr0, hr1, hr2⟩ := hrel
    have HR := hid hr2
    have hb2 := Cal.long_bd y m
    have hs := hid (Cal.cum_succ y m (by omega) (by omega))
    clear hr2
    by_cases hlt : Cal.long y m ≤ rest
    · have hm : m < 12 := by
        rcases Int.lt_or_le m 12 with h | h
        · exact h
        · obtain rfl : m = 12 := by omega
          have a := hs.out
          have b := Cal.cum_13 y
          have := HFS.out
          have := HR.out
          simp at a
          omega
      go_wp2_with (with_reducible (refine (c4.out _ (by omega) (by omega) _ HT.out).mono ?_); rintro e w' ⟨rfl, rfl⟩)
      go_round
      case rel => exact ⟨m + 1, rest - Cal.long y m, by omega, by omega, rfl, rfl, by omega, by omega, by have := hs.out; have := HR.out; omega⟩
      case measure => simp [intOf]; omega
    · go_wp2_with (with_reducible (refine (c4.out _ (by omega) (by omega) _ HT.out).mono ?_); rintro e w' ⟨rfl, rfl⟩)
      refine bodyPost_ret (results_tmp4 rfl _ _ _) rfl ?_
      exact ⟨⟨y, m, rest + 1, ⟨by omega, by omega, hm0, hm1, by omega, by omega⟩, by have := HR.out; unfold Cal.num; omega, rfl⟩, rfl⟩
theorem parts_no (day : Int) (h : dayB day = false) (w : World) : Calls Tryd.prog 10 #[.int .i64 day] w fun e w' => e = .returned (.tuple #[.int .i64 0, .int .i64 0, .int .i64 0, .int .i64 13]) ∧ w = w' := by
  have c1 := hid (fun w => isDay_any day w)
  rw [h] at c1
  clear h
  go_enter Tryd.func10, Tryd.ntmps10
  go_wp2_with fail
  refine (c1.out _).mono ?_
  rintro e w' ⟨rfl, rfl⟩
  go_wp2
  refine bodyPost_ret (results_tmp4 rfl _ _ _) rfl ?_
  exact ⟨rfl, rfl⟩
/-- What Weekday returns. -/
def wdM (d : Int) : Int := if dayB d then (d + 5) % 7 else -1
theorem weekday_any (day : Int) (w : World) : Calls Tryd.prog 15 #[.int .i64 day] w fun e w' => e = .returned (.int .i64 (wdM day)) ∧ w = w' := by
  have c1 := hid (fun w => isDay_any day w)
  by_cases h : 0 ≤ day ∧ day ≤ 36524
  · obtain ⟨h0, h1⟩ := h
    have hb := dayB_yes h0 h1
    rw [hb] at c1
    have e : wdM day = (day + 5) % 7 := by unfold wdM; rw [hb]; rfl
    rw [e]
    clear hb e
    go_enter Tryd.func15, Tryd.ntmps15
    go_wp2_with fail
    refine (c1.out _).mono ?_
    rintro e w' ⟨rfl, rfl⟩
    go_wp2
    go_ret
    exact ⟨rfl, rfl⟩
  · have hb := dayB_no h
    rw [hb] at c1
    have e : wdM day = -1 := by unfold wdM; rw [hb]; rfl
    rw [e]
    clear hb e
    go_enter Tryd.func15, Tryd.ntmps15
    go_wp2_with fail
    refine (c1.out _).mono ?_
    rintro e w' ⟨rfl, rfl⟩
    go_wp2
    go_ret
    exact ⟨rfl, rfl⟩
theorem week_yes (day : Int) (h0 : 0 ≤ day) (h1 : day ≤ 36524) (w : World) : Calls Tryd.prog 12 #[.int .i64 day] w fun e w' => e = .returned (.tuple #[.int .i64 (Cal.wy day), .int .i64 (Cal.wn day), .int .i64 0]) ∧ w = w' := by
  have hb := hid (dayB_yes h0 h1)
  have c1 := hid (fun w => isDay_any day w)
  have c2 := hid (fun w => weekday_any day w)
  have ew : wdM day = (day + 5) % 7 := by unfold wdM; rw [hb.out]; rfl
  rw [hb.out] at c1
  rw [ew] at c2
  have ht := Cal.thu_bd day
  have hy := Cal.yo_bd' (Cal.thu day) (by omega) (by omega)
  have c3 := hid (fun w => yearOf_any (Cal.thu day) (by omega) (by omega) w)
  have c4 := hid (fun w => firstOf_any (Cal.yo (Cal.thu day)) (by omega) (by omega) w)
  have hs := Cal.yo_spec (Cal.thu day)
  have hf := Cal.fo_bd (Cal.yo (Cal.thu day)) (by omega) (by omega)
  have et : Hid (day - (day + 5) % 7 + 3 = Cal.thu day) := hid rfl
  have e1 : Hid (Cal.wy day = Cal.yo (Cal.thu day)) := hid rfl
  have e2 : Hid (Cal.wn day = (Cal.thu day - Cal.fo (Cal.yo (Cal.thu day))) / 7 + 1) := hid rfl
  rw [e1.out, e2.out]
  clear ew e1 e2
  go_enter Tryd.func12, Tryd.ntmps12
  go_wp2_with fail
  refine (c1.out _).mono ?_
  rintro e w' ⟨rfl, rfl⟩
  go_wp2_with fail
  refine (c2.out _).mono ?_
  rintro e w' ⟨rfl, rfl⟩
  go_wp2_with fail
  rw [et.out]
  refine (c3.out _).mono ?_
  rintro e w' ⟨rfl, rfl⟩
  go_wp2_with fail
  refine (c4.out _).mono ?_
  rintro e w' ⟨rfl, rfl⟩
  go_wp2
  go_ret3
  exact ⟨rfl, rfl⟩
theorem week_no (day : Int) (h : dayB day = false) (w : World) : Calls Tryd.prog 12 #[.int .i64 day] w fun e w' => e = .returned (.tuple #[.int .i64 0, .int .i64 0, .int .i64 13]) ∧ w = w' := by
  have c1 := hid (fun w => isDay_any day w)
  rw [h] at c1
  clear h
  go_enter Tryd.func12, Tryd.ntmps12
  go_wp2_with fail
  refine (c1.out _).mono ?_
  rintro e w' ⟨rfl, rfl⟩
  go_wp2
  go_ret3
  exact ⟨rfl, rfl⟩
end Go.Proofs.YtkgindnlllhioaaDoor
