/-
  The sanity check of the statements about the calendar holds. Condition: the table of the months' lengths lies in memory as the text says.
-/
import Derived.Test.YtkgindnlllhioaaDoorR1
set_option linter.unusedVariables false
namespace Go.Proofs.YtkgindnlllhioaaDoor
open Go Go.Proofs Go.RowKit Go.Lib

theorem awakeDate : Cal.Date 2024 12 31 := ⟨by decide, by decide, by decide, by decide, by decide, by decide⟩
theorem awakeNum : Cal.num 2024 12 31 = 9131 := by decide
theorem awakeWy : Cal.wy 9131 = 2025 := by decide
theorem awakeWn : Cal.wn 9131 = 1 := by decide
theorem awakeWd : wdM 0 = 5 := by decide
theorem awake_any (w : World) (hT : Tab w) : Calls Tryd.prog 14 #[] w fun e w' => e = .returned (.bool true) ∧ w = w' := by
  have c1 := hid (day_yes 2024 12 31 awakeDate w hT)
  have c2 := hid (week_yes 9131 (by decide) (by decide) w)
  have c3 := hid (weekday_any 0 w)
  rw [awakeNum] at c1
  rw [awakeWy, awakeWn] at c2
  rw [awakeWd] at c3
  clear hT
  go_enter Tryd.func14, Tryd.ntmps14
  go_wp2_with fail
  refine c1.out.mono ?_
  rintro e w' ⟨rfl, rfl⟩
  go_wp2_with fail
  refine c2.out.mono ?_
  rintro e w' ⟨rfl, rfl⟩
  go_wp2_with fail
  refine c3.out.mono ?_
  rintro e w' ⟨rfl, rfl⟩
  go_wp2
  go_ret
  exact ⟨rfl, rfl⟩
end Go.Proofs.YtkgindnlllhioaaDoor
