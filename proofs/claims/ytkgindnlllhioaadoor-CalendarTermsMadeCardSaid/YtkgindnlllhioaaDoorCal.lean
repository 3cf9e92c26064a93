/-
  The calendar as plain mathematics: the first day of a year, the length of a month, the year of a day, the week of a day, and that the ways of the program and of the specification lead to the same numbers. No conditions beyond those of each lemma.
-/
set_option linter.unusedVariables false
namespace Go.Proofs.YtkgindnlllhioaaDoor
namespace Cal

def lp (y : Int) : Int := if y % 4 = 0 then 1 else 0
def fo (y : Int) : Int := 365 * (y - 1996) + (y - 1993) / 4 - 1461
def long (y m : Int) : Int := if m = 2 then 28 + lp y else if m = 4 ∨ m = 6 ∨ m = 9 ∨ m = 11 then 30 else 31
/-- The days of a year before a month. -/
def cum (y m : Int) : Int :=
  if m = 1 then 0 else if m = 2 then 31 else
  (if m = 3 then 59 else if m = 4 then 90 else if m = 5 then 120 else if m = 6 then 151 else if m = 7 then 181 else if m = 8 then 212 else if m = 9 then 243 else if m = 10 then 273 else if m = 11 then 304 else if m = 12 then 334 else 365) + lp y
def num (y m d : Int) : Int := fo y + cum y m + d - 1
def yo (d : Int) : Int := 1996 + 4 * (d + 1461) / 1461

theorem lp_01 (y : Int) : 0 ≤ lp y ∧ lp y ≤ 1 := by unfold lp; split <;> omega
theorem fo_succ (y : Int) : fo (y + 1) = fo y + 365 + lp y := by unfold fo lp; split <;> omega
theorem fo_mono (a b : Int) (h : a ≤ b) : fo a ≤ fo b := by unfold fo; omega
theorem fo_lt (a b : Int) (h : a < b) : fo a + 365 ≤ fo b := by unfold fo; omega
theorem fo_bd (y : Int) (h0 : 1996 ≤ y) (h1 : y ≤ 2102) : -1461 ≤ fo y ∧ fo y ≤ 37300 := by unfold fo; omega
theorem fo_2000 : fo 2000 = 0 := by decide
theorem fo_2100 : fo 2100 = 36525 := by decide
theorem fo_1999 : fo 1999 = -365 := by decide
theorem yo_spec (d : Int) : fo (yo d) ≤ d ∧ d < fo (yo d + 1) := by unfold fo yo; omega
theorem yo_of (y d : Int) (h0 : fo y ≤ d) (h1 : d < fo (y + 1)) : yo d = y := by
  have := yo_spec d
  rcases Int.lt_trichotomy (yo d) y with h | h | h
  · have := fo_mono (yo d + 1) y (by omega); omega
  · exact h
  · have := fo_mono (y + 1) (yo d) (by omega); omega
theorem yo_bd (d : Int) (h0 : 0 ≤ d) (h1 : d ≤ 36524) : 2000 ≤ yo d ∧ yo d ≤ 2099 := by unfold yo; omega
theorem yo_bd' (d : Int) (h0 : -8 ≤ d) (h1 : d ≤ 36534) : 1999 ≤ yo d ∧ yo d ≤ 2100 := by unfold yo; omega
theorem months {m : Int} (h0 : 1 ≤ m) (h1 : m ≤ 12) : m = 1 ∨ m = 2 ∨ m = 3 ∨ m = 4 ∨ m = 5 ∨ m = 6 ∨ m = 7 ∨ m = 8 ∨ m = 9 ∨ m = 10 ∨ m = 11 ∨ m = 12 := by omega
theorem long_bd (y m : Int) : 28 ≤ long y m ∧ long y m ≤ 31 := by
  have := lp_01 y
  unfold long
  split
  · omega
  · split <;> omega
theorem cum_succ (y m : Int) (h0 : 1 ≤ m) (h1 : m ≤ 12) : cum y (m + 1) = cum y m + long y m := by
  have := lp_01 y
  rcases months h0 h1 with h | h | h | h | h | h | h | h | h | h | h | h <;> subst h <;> simp [cum, long] <;> omega
theorem cum_one (y : Int) : cum y 1 = 0 := by simp [cum]
theorem cum_13 (y : Int) : cum y 13 = 365 + lp y := by simp [cum]
theorem cum_bd (y m : Int) (h0 : 1 ≤ m) (h1 : m ≤ 12) : 0 ≤ cum y m ∧ cum y m ≤ 366 := by
  have := lp_01 y
  rcases months h0 h1 with h | h | h | h | h | h | h | h | h | h | h | h <;> subst h <;> simp [cum] <;> omega
theorem cum_le (y m : Int) (h0 : 1 ≤ m) (h1 : m ≤ 12) : cum y (m + 1) ≤ 365 + lp y := by
  have := lp_01 y
  rcases months h0 h1 with h | h | h | h | h | h | h | h | h | h | h | h <;> subst h <;> simp [cum] <;> omega
theorem cum_mono (y a b : Int) (h0 : 1 ≤ a) (h : a ≤ b) (h1 : b ≤ 12) : cum y a ≤ cum y b := by
  have := lp_01 y
  rcases months h0 (by omega) with h' | h' | h' | h' | h' | h' | h' | h' | h' | h' | h' | h' <;> subst h' <;>
  rcases months (by omega) h1 with h' | h' | h' | h' | h' | h' | h' | h' | h' | h' | h' | h' <;> subst h' <;> simp [cum] <;> omega

/-- A date. -/
structure Date (y m d : Int) : Prop where
  y0 : 2000 ≤ y
  y1 : y ≤ 2099
  m0 : 1 ≤ m
  m1 : m ≤ 12
  d0 : 1 ≤ d
  d1 : d ≤ long y m
theorem Date.range {y m d : Int} (h : Date y m d) : 0 ≤ num y m d ∧ num y m d ≤ 36524 := by
  have h1 := fo_mono 2000 y h.y0
  have h2 := fo_mono (y + 1) 2100 (by have := h.y1; omega)
  have h3 := cum_le y m h.m0 h.m1
  have h4 := cum_succ y m h.m0 h.m1
  have h5 := fo_succ y
  have h6 := cum_bd y m h.m0 h.m1
  have := h.d0
  have := h.d1
  rw [fo_2000] at h1
  rw [fo_2100] at h2
  unfold num
  omega
theorem Date.year {y m d : Int} (h : Date y m d) : yo (num y m d) = y := by
  have h3 := cum_le y m h.m0 h.m1
  have h4 := cum_succ y m h.m0 h.m1
  have h5 := fo_succ y
  have h6 := cum_bd y m h.m0 h.m1
  have := h.d0
  have := h.d1
  exact yo_of y _ (by unfold num; omega) (by unfold num; omega)
theorem Date.inj {y m d y' m' d' : Int} (h : Date y m d) (h' : Date y' m' d') (he : num y m d = num y' m' d') : y = y' ∧ m = m' ∧ d = d' := by
  have hy : y = y' := by rw [← h.year, ← h'.year, he]
  subst hy
  have hm : m = m' := by
    rcases Int.lt_trichotomy m m' with hlt | hlt | hlt
    · have a := cum_succ y m h.m0 h.m1
      have b := cum_mono y (m + 1) m' (by have := h.m0; omega) (by omega) h'.m1
      have := h.d1
      have := h'.d0
      unfold num at he
      omega
    · exact hlt
    · have a := cum_succ y m' h'.m0 h'.m1
      have b := cum_mono y (m' + 1) m (by have := h'.m0; omega) (by omega) h.m1
      have := h'.d1
      have := h.d0
      unfold num at he
      omega
  subst hm
  unfold num at he
  exact ⟨rfl, rfl, by omega⟩

/-- Each day has a date. -/
theorem exists_date (day : Int) (h0 : 0 ≤ day) (h1 : day ≤ 36524) : ∃ m d, Date (yo day) m d ∧ num (yo day) m d = day := by
  have hyb := yo_bd day h0 h1
  have hys := yo_spec day
  have hfs := fo_succ (yo day)
  generalize yo day = y at *
  have key : ∀ n : Nat, n ≤ 11 → fo y + cum y (12 - n) ≤ day → ∃ m d, Date y m d ∧ num y m d = day := by
    intro n
    induction n with
    | zero =>
      intro _ h
      have a := cum_succ y 12 (by omega) (by omega)
      have b := cum_13 y
      simp at a h
      exact ⟨12, day - fo y - cum y 12 + 1, ⟨by omega, by omega, by omega, by omega, by omega, by omega⟩, by unfold num; omega⟩
    | succ n ih =>
      intro hn h
      by_cases hc : fo y + cum y (12 - n) ≤ day
      · exact ih (by omega) hc
      · have a := cum_succ y (12 - (n + 1 : Nat)) (by omega) (by omega)
        rw [show (12 : Int) - (n + 1 : Nat) + 1 = 12 - n by omega] at a
        exact ⟨12 - (n + 1 : Nat), day - fo y - cum y (12 - (n + 1 : Nat)) + 1, ⟨by omega, by omega, by omega, by omega, by omega, by omega⟩, by unfold num; omega⟩
  exact key 11 (by omega) (by simp [cum]; omega)
/-- Days follow each other. -/
theorem Date.next {y m d y' m' d' : Int} (h : Date y m d) (h' : Date y' m' d') (he : num y' m' d' = num y m d + 1) :
    (y' = y ∧ m' = m ∧ d' = d + 1) ∨ (d' = 1 ∧ y' = y ∧ m' = m + 1 ∧ ¬ (y' = y ∧ m' = m ∧ d' = d + 1)) ∨ (d' = 1 ∧ m' = 1 ∧ y' = y + 1 ∧ m = 12 ∧ ¬ (y' = y ∧ m' = m ∧ d' = d + 1) ∧ y' ≠ y) := by
  have hd1 := h.d1
  have hd0 := h.d0
  have hm0 := h.m0
  have hm1 := h.m1
  by_cases hd : d < long y m
  · obtain ⟨a, b, c⟩ := Date.inj h' (y' := y) (m' := m) (d' := d + 1) ⟨h.y0, h.y1, h.m0, h.m1, by omega, by omega⟩ (by rw [he]; unfold num; omega)
    exact .inl ⟨a, b, c⟩
  · by_cases hm : m < 12
    · have hl := long_bd y (m + 1)
      have hc := cum_succ y m h.m0 h.m1
      obtain ⟨a, b, c⟩ := Date.inj h' (y' := y) (m' := m + 1) (d' := 1) ⟨h.y0, h.y1, by omega, by omega, by omega, by omega⟩ (by rw [he]; unfold num; omega)
      exact .inr (.inl ⟨c, a, b, fun hh => by omega⟩)
    · obtain rfl : m = 12 := by omega
      have hl := long_bd (y + 1) 1
      have hc := cum_succ y 12 (by omega) (by omega)
      have h13 := cum_13 y
      have h1 := cum_one (y + 1)
      have hf := fo_succ y
      have hr := h'.range
      have hy : y + 1 ≤ 2099 := by
        rcases Int.lt_or_le y 2099 with hlt | hge
        · omega
        · obtain rfl : y = 2099 := by have := h.y1; omega
          have := fo_2100
          rw [he] at hr
          unfold num at hr
          simp at hc h13 hf
          omega
      obtain ⟨a, b, c⟩ := Date.inj h' (y' := y + 1) (m' := 1) (d' := 1) ⟨by have := h.y0; omega, by omega, by omega, by omega, by omega, by omega⟩ (by rw [he]; unfold num; simp at hc h13; omega)
      exact .inr (.inr ⟨c, b, a, rfl, fun hh => by omega, by omega⟩)

/-- The Thursday of a day's week. -/
def thu (d : Int) : Int := d - (d + 5) % 7 + 3
/-- The calendar week of a day. -/
def wy (d : Int) : Int := yo (thu d)
def wn (d : Int) : Int := (thu d - fo (yo (thu d))) / 7 + 1
/-- The Monday of the first week of a year. -/
def mon1 (y : Int) : Int := fo y + 3 - (fo y + 428) % 7
theorem thu_bd (d : Int) : d - 3 ≤ thu d ∧ thu d ≤ d + 3 := by unfold thu; omega
theorem week_of (d y : Int) (h0 : mon1 y ≤ d) (h1 : d < mon1 (y + 1)) : wy d = y ∧ wn d = (d - mon1 y) / 7 + 1 := by
  have e : yo (thu d) = y := by
    refine yo_of y (thu d) ?_ ?_
    · unfold mon1 at h0; unfold thu; omega
    · unfold mon1 at h1; unfold thu; omega
  refine ⟨e, ?_⟩
  unfold wn
  rw [e]
  unfold mon1 at h0 ⊢
  unfold thu
  omega
theorem mon1_bd (y : Int) : fo y - 3 ≤ mon1 y ∧ mon1 y ≤ fo y + 3 := by unfold mon1; omega
/-- The specification's way to the week. -/
theorem week_ref (d y : Int) (h0 : fo y ≤ d) (h1 : d < fo (y + 1)) :
    (d < mon1 y → wy d = y - 1 ∧ wn d = (d - mon1 (y - 1)) / 7 + 1) ∧
    (¬ d < mon1 y → mon1 (y + 1) ≤ d → wy d = y + 1 ∧ wn d = (d - mon1 (y + 1)) / 7 + 1) ∧
    (¬ d < mon1 y → ¬ mon1 (y + 1) ≤ d → wy d = y ∧ wn d = (d - mon1 y) / 7 + 1) := by
  refine ⟨fun h => ?_, fun h k => ?_, fun h k => ?_⟩
  · refine week_of d (y - 1) ?_ (by rw [show y - 1 + 1 = y by omega]; exact h)
    have := mon1_bd (y - 1)
    have := fo_lt (y - 1) y (by omega)
    omega
  · refine week_of d (y + 1) k ?_
    have := mon1_bd (y + 1 + 1)
    have := fo_lt (y + 1) (y + 1 + 1) (by omega)
    omega
  · exact week_of d y (by omega) (by omega)
/-- Weeks go on. -/
theorem week_next (d : Int) (h : (d + 1 + 5) % 7 ≠ 0) : wy (d + 1) = wy d ∧ wn (d + 1) = wn d := by
  have e : thu (d + 1) = thu d := by unfold thu; omega
  unfold wy wn
  rw [e]
  exact ⟨rfl, rfl⟩
theorem week_new (d : Int) (h : (d + 1 + 5) % 7 = 0) : (wy (d + 1) = wy d ∧ wn (d + 1) = wn d + 1) ∨ (wy (d + 1) = wy d + 1 ∧ wn (d + 1) = 1 ∧ 52 ≤ wn d) := by
  have e : thu (d + 1) = thu d + 7 := by unfold thu; omega
  have h1 := yo_spec (thu d)
  have h2 := fo_succ (yo (thu d))
  have h3 := lp_01 (yo (thu d))
  unfold wy wn
  rw [e]
  by_cases hy : thu d + 7 < fo (yo (thu d) + 1)
  · have := yo_of (yo (thu d)) (thu d + 7) (by omega) hy
    rw [this]
    exact .inl ⟨rfl, by omega⟩
  · have h4 := fo_lt (yo (thu d) + 1) (yo (thu d) + 1 + 1) (by omega)
    have := yo_of (yo (thu d) + 1) (thu d + 7) (by omega) (by omega)
    rw [this]
    exact .inr ⟨rfl, by omega, by omega⟩
end Cal
end Go.Proofs.YtkgindnlllhioaaDoor
