/-
  The program's calendar, its small parts: isDay, yearOf, firstOf, lengthOf, isDate, Weekday. Conditions: the table of the months' lengths lies in memory as the text says.
-/
import Derived.Test.YtkgindnlllhioaaDoorProg
import Derived.Test.YtkgindnlllhioaaDoorCal
import Derived.WalkKit
import Derived.WalkSpells
import Derived.WalkLawsBesides
import Derived.Lib.Hide
set_option linter.unusedVariables false
namespace Go.Proofs.YtkgindnlllhioaaDoor
open Go Go.Proofs Go.RowKit Go.Lib

/-- The table of the months' lengths. -/
def tl : List Int := [31, 28, 31, 30, 31, 30, 31, 31, 30, 31, 30, 31]
def Tab (w : World) : Prop := ∀ (j : Nat) (v : Int), tl[j]? = some v → w.cell? ⟨0, j, none⟩ = some (.int .i64 v)
theorem Tab.below {w w' : World} {B : Nat} (h : Tab w) (hb : Below B w w') (hB : 0 < B) : Tab w' := fun j v hv => (hb.cell (p := ⟨0, j, none⟩) hB).trans (h j v hv)
theorem Tab.drewN {w : World} (h : Tab w) (n : Nat) : Tab (w.drewN n) := fun j v hv => h j v hv
theorem tl_len : tl.length = 12 := rfl

def dayB (d : Int) : Bool := decide (0 ≤ d ∧ d ≤ 36524)
theorem dayB_yes {d : Int} (h0 : 0 ≤ d) (h1 : d ≤ 36524) : dayB d = true := decide_eq_true ⟨h0, h1⟩
theorem dayB_no {d : Int} (h : ¬ (0 ≤ d ∧ d ≤ 36524)) : dayB d = false := decide_eq_false h

theorem isDay_any (d : Int) (w : World) : Calls Tryd.prog 38 #[.int .i64 d] w fun e w' => e = .returned (.bool (dayB d)) ∧ w = w' := by
  by_cases h0 : 0 ≤ d
  · by_cases h1 : d ≤ 36524
    · rw [dayB_yes h0 h1]
      go_enter Tryd.func38, Tryd.ntmps38
      go_wp2
      go_ret
      exact ⟨rfl, rfl⟩
    · rw [dayB_no (by omega)]
      go_enter Tryd.func38, Tryd.ntmps38
      go_wp2
      go_ret
      exact ⟨by simp [h1], rfl⟩
  · rw [dayB_no (by omega)]
    go_enter Tryd.func38, Tryd.ntmps38
    go_wp2
    go_ret
    exact ⟨by simp [h0], rfl⟩
theorem valid_any (d : Int) (w : World) : Calls Tryd.prog 40 #[.int .i64 d] w fun e w' => e = .returned (.bool (dayB d)) ∧ w = w' := by
  by_cases h0 : 0 ≤ d
  · by_cases h1 : d ≤ 36524
    · rw [dayB_yes h0 h1]
      go_enter Tryd.func40, Tryd.ntmps40
      go_wp2
      go_ret
      exact ⟨rfl, rfl⟩
    · rw [dayB_no (by omega)]
      go_enter Tryd.func40, Tryd.ntmps40
      go_wp2
      go_ret
      exact ⟨by simp [h1], rfl⟩
  · rw [dayB_no (by omega)]
    go_enter Tryd.func40, Tryd.ntmps40
    go_wp2
    go_ret
    exact ⟨by simp [h0], rfl⟩
theorem ret_int {k : IntKind} {a b : Int} (h : a = b) : Ending.returned (.int k a) = .returned (.int k b) := by rw [h]
theorem yearOf_any (d : Int) (h0 : -1461 ≤ d) (h1 : d ≤ 100000) (w : World) : Calls Tryd.prog 39 #[.int .i64 d] w fun e w' => e = .returned (.int .i64 (Cal.yo d)) ∧ w = w' := by
  go_enter Tryd.func39, Tryd.ntmps39
  go_wp2
  go_ret
  exact ⟨rfl, rfl⟩
theorem firstOf_any (y : Int) (h0 : 1996 ≤ y) (h1 : y ≤ 2200) (w : World) : Calls Tryd.prog 35 #[.int .i64 y] w fun e w' => e = .returned (.int .i64 (Cal.fo y)) ∧ w = w' := by
  go_enter Tryd.func35, Tryd.ntmps35
  go_wp2
  go_ret
  exact ⟨ret_int (by unfold Cal.fo; omega), rfl⟩
set_option maxHeartbeats 1000000 in
theorem lengthOf_any (y m : Int) (hy : 0 ≤ y) (hm0 : 1 ≤ m) (hm1 : m ≤ 12) (w : World) (hT : Tab w) : Calls Tryd.prog 36 #[.int .i64 y, .int .i64 m] w fun e w' => e = .returned (.int .i64 (Cal.long y m)) ∧ w = w' := by
  rcases Cal.months hm0 hm1 with h | h | h | h | h | h | h | h | h | h | h | h <;> subst h
  case inr.inl =>
    have hc := hT 1 28 rfl
    have H := hid hT
    clear hT
    by_cases hl : y % 4 = 0
    all_goals
      go_enter Tryd.func36, Tryd.ntmps36
      go_wp2
      go_ret
      exact ⟨ret_int (by simp [Cal.long, Cal.lp, hl]), rfl⟩
  all_goals
    have hc0 := hT 0 31 rfl
    have hc2 := hT 2 31 rfl
    have hc3 := hT 3 30 rfl
    have hc4 := hT 4 31 rfl
    have hc5 := hT 5 30 rfl
    have hc6 := hT 6 31 rfl
    have hc7 := hT 7 31 rfl
    have hc8 := hT 8 30 rfl
    have hc9 := hT 9 31 rfl
    have hc10 := hT 10 30 rfl
    have hc11 := hT 11 31 rfl
    have H := hid hT
    clear hT
    go_enter Tryd.func36, Tryd.ntmps36
    go_wp2
    go_ret
    exact ⟨ret_int (by simp [Cal.long]), rfl⟩
end Go.Proofs.YtkgindnlllhioaaDoor
