/-
  The walk of CalendarDates: the program and the specification agree on Day, Parts, Weekday and Week at any numbers. Condition: the table of the months' lengths lies in memory as the text says.
-/
import Derived.Test.YtkgindnlllhioaaDoorAwake
set_option linter.unusedVariables false
namespace Go.Proofs.YtkgindnlllhioaaDoor
open Go Go.Proofs Go.RowKit Go.Lib

/-- Day of the program and of the specification give the same two numbers. -/
theorem day_same (y m d : Int) : ∃ a e : Int, (∀ w, Tab w → Calls Tryd.prog 8 #[.int .i64 y, .int .i64 m, .int .i64 d] w fun x w' => x = .returned (.tuple #[.int .i64 a, .int .i64 e]) ∧ w = w') ∧
    (∀ w, Calls Tryd.prog 9 #[.int .i64 y, .int .i64 m, .int .i64 d] w fun x w' => x = .returned (.tuple #[.int .i64 a, .int .i64 e]) ∧ w = w') := by
  cases h : dateB y m d with
  | true => exact ⟨_, _, fun w hT => day_yes y m d (dateB_date h) w hT, fun w => refDay_yes y m d (dateB_date h) w⟩
  | false => exact ⟨_, _, fun w hT => day_no y m d h w hT, fun w => refDay_no y m d h w⟩
/-- Parts. -/
theorem parts_same (day : Int) : ∃ y m d e : Int, (∀ w, Tab w → Calls Tryd.prog 10 #[.int .i64 day] w fun x w' => x = .returned (.tuple #[.int .i64 y, .int .i64 m, .int .i64 d, .int .i64 e]) ∧ w = w') ∧
    (∀ w, Calls Tryd.prog 11 #[.int .i64 day] w fun x w' => x = .returned (.tuple #[.int .i64 y, .int .i64 m, .int .i64 d, .int .i64 e]) ∧ w = w') := by
  by_cases h : 0 ≤ day ∧ day ≤ 36524
  · obtain ⟨y, m, d, hd, hn⟩ : ∃ y m d, Cal.Date y m d ∧ Cal.num y m d = day := by
      refine ⟨Cal.yo day, ?_⟩
      exact Cal.exists_date day h.1 h.2
    refine ⟨y, m, d, 0, fun w hT => (parts_yes day h.1 h.2 w hT).mono ?_, fun w => (refParts_yes day h.1 h.2 w).mono ?_⟩
    · rintro e w' ⟨⟨y', m', d', hd', hn', rfl⟩, rfl⟩
      obtain ⟨rfl, rfl, rfl⟩ := Cal.Date.inj hd' hd (by rw [hn, hn'])
      exact ⟨rfl, rfl⟩
    · rintro e w' ⟨⟨y', m', d', hd', hn', rfl⟩, rfl⟩
      obtain ⟨rfl, rfl, rfl⟩ := Cal.Date.inj hd' hd (by rw [hn, hn'])
      exact ⟨rfl, rfl⟩
  · exact ⟨0, 0, 0, 13, fun w _ => parts_no day (dayB_no h) w, fun w => refParts_no day (dayB_no h) w⟩
/-- Week. -/
theorem week_same (day : Int) : ∃ y n e : Int, (∀ w, Calls Tryd.prog 12 #[.int .i64 day] w fun x w' => x = .returned (.tuple #[.int .i64 y, .int .i64 n, .int .i64 e]) ∧ w = w') ∧
    (∀ w, Calls Tryd.prog 13 #[.int .i64 day] w fun x w' => x = .returned (.tuple #[.int .i64 y, .int .i64 n, .int .i64 e]) ∧ w = w') := by
  by_cases h : 0 ≤ day ∧ day ≤ 36524
  · exact ⟨_, _, _, fun w => week_yes day h.1 h.2 w, fun w => refWeek_yes day h.1 h.2 w⟩
  · exact ⟨_, _, _, fun w => week_no day (dayB_no h) w, fun w => refWeek_no day (dayB_no h) w⟩

set_option maxHeartbeats 4000000 in
set_option maxRecDepth 100000 in
theorem dates_any (a b c day : Int) (w : World) (hT : Tab w) (h0 : 0 < w.heap.size) :
    Calls Tryd.prog 3 #[.agg #[.int .i64 a, .int .i64 b, .int .i64 c], .int .i64 day] w fun e w' => e = .returned (.bool true) ∧ Below w.heap.size w w' := by
  obtain ⟨n, e1, hA, hB⟩ := day_same a b c
  obtain ⟨y, m, d, e2, hC, hD⟩ := parts_same day
  obtain ⟨u, v, e3, hE, hF⟩ := week_same day
  have hT2 : Hid (∀ o, Tab (w.alloc o)) := hid (fun o => hT.below ((Below.refl _ _).alloc (Nat.le_refl _) o) h0)
  have HA := hid hA
  have HB := hid hB
  have HC := hid hC
  have HD := hid hD
  have HE := hid hE
  have HF := hid hF
  have HG := hid (awake_any)
  have HI := hid (weekday_any day)
  have HJ := hid (refWeekday_any day)
  generalize wdM day = wd at HI HJ
  clear hA hB hC hD hE hF hT
  go_enter Tryd.func3, Tryd.ntmps3
  go_wp2_with fail
  refine (HA.out _ (hT2.out _)).mono ?_
  rintro e w' ⟨rfl, rfl⟩
  go_wp2_with fail
  refine (HB.out _).mono ?_
  rintro e w' ⟨rfl, rfl⟩
  go_wp2_with fail
  refine (HC.out _ (hT2.out _)).mono ?_
  rintro e w' ⟨rfl, rfl⟩
  go_wp2_with fail
  refine (HD.out _).mono ?_
  rintro e w' ⟨rfl, rfl⟩
  go_wp2_with fail
  refine (HE.out _).mono ?_
  rintro e w' ⟨rfl, rfl⟩
  go_wp2_with fail
  refine (HF.out _).mono ?_
  rintro e w' ⟨rfl, rfl⟩
  go_wp2_with fail
  refine (HG.out _ (hT2.out _)).mono ?_
  rintro e w' ⟨rfl, rfl⟩
  go_wp2_with fail
  refine (HI.out _).mono ?_
  rintro e w' ⟨rfl, rfl⟩
  go_wp2_with fail
  refine (HJ.out _).mono ?_
  rintro e w' ⟨rfl, rfl⟩
  go_wp2
  go_ret
  exact ⟨by simp, (Below.refl _ _).alloc (Nat.le_refl _) _⟩
end Go.Proofs.YtkgindnlllhioaaDoor
