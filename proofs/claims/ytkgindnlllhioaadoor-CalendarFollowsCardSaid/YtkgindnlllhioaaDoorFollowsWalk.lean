/-
  The walk of CalendarFollows: dates, weekdays and calendar weeks go on from day to day, and the date leads back to the day. Condition: the table of the months' lengths lies in memory as the text says.
-/
import Derived.Test.YtkgindnlllhioaaDoorAwake
set_option linter.unusedVariables false
namespace Go.Proofs.YtkgindnlllhioaaDoor
open Go Go.Proofs Go.RowKit Go.Lib

/-- What Mod returns. -/
def modI (n m : Int) : Int := if m < 1 then 0 else if n.tmod m < 0 then n.tmod m + m else n.tmod m
theorem modI_range (n m : Int) (h : 1 ≤ m) : 0 ≤ modI n m ∧ modI n m < m := by
  unfold modI
  have h1 := Int.tmod_lt_of_pos n (show (0 : Int) < m by omega)
  have h2 := Int.lt_tmod_of_pos n (show (0 : Int) < m by omega)
  rw [if_neg (by omega)]
  split <;> omega
set_option maxHeartbeats 1000000 in
theorem mod_any (n m : Int) (hm : m ≤ 4294967296) (w : World) : Calls Tryd.prog 17 #[.int .i64 n, .int .i64 m] w fun e w' => e = .returned (.int .i64 (modI n m)) ∧ w = w' := by
  by_cases h : m < 1
  · have e : modI n m = 0 := if_pos h
    rw [e]
    go_enter Tryd.func17, Tryd.ntmps17
    go_wp2
    go_ret
    exact ⟨rfl, rfl⟩
  · have hne : (m == 0) = false := by simp; omega
    have ha := Int.tmod_lt_of_pos n (show (0 : Int) < m by omega)
    have hb := Int.lt_tmod_of_pos n (show (0 : Int) < m by omega)
    have hE : modI n m = if n.tmod m < 0 then n.tmod m + m else n.tmod m := if_neg h
    have HE := hid hE
    clear hE
    go_enter Tryd.func17, Tryd.ntmps17
    go_wp2
    · have e : modI n m = n.tmod m + m := by rw [HE.out]; exact if_pos (by assumption)
      rw [e]
      go_ret
      exact ⟨rfl, rfl⟩
    · have e : modI n m = n.tmod m := by rw [HE.out]; exact if_neg (by omega)
      rw [e]
      go_ret
      exact ⟨rfl, rfl⟩

/-- The weekdays of two days that follow each other. -/
theorem wd_next (a : Int) (h0 : 0 ≤ a) (h1 : a ≤ 36523) : wdM (a + 1) = (wdM a + 1) % 7 ∧ 0 ≤ wdM a ∧ wdM a ≤ 6 := by
  unfold wdM
  rw [dayB_yes (by omega) (by omega), dayB_yes h0 (by omega)]
  simp only [if_true]
  omega
def wkCase (a b u v uu vv : Int) : Prop := (b ≠ 0 ∧ uu = u ∧ vv = v) ∨ (b = 0 ∧ uu = u ∧ vv = v + 1) ∨ (b = 0 ∧ uu = u + 1 ∧ vv = 1 ∧ 52 ≤ v)
theorem wk_case (a : Int) (h0 : 0 ≤ a) (h1 : a ≤ 36523) : wkCase a (wdM (a + 1)) (Cal.wy a) (Cal.wn a) (Cal.wy (a + 1)) (Cal.wn (a + 1)) := by
  have e : wdM (a + 1) = (a + 1 + 5) % 7 := by unfold wdM; rw [dayB_yes (by omega) (by omega)]; rfl
  rw [e]
  by_cases h : (a + 1 + 5) % 7 = 0
  · rcases Cal.week_new a h with ⟨p, q⟩ | ⟨p, q, r⟩
    · exact .inr (.inl ⟨h, p, q⟩)
    · exact .inr (.inr ⟨h, p, q, r⟩)
  · obtain ⟨p, q⟩ := Cal.week_next a h
    exact .inl ⟨h, p, q⟩
theorem wn_bd (d : Int) (h0 : 0 ≤ d) (h1 : d ≤ 36524) : 1 ≤ Cal.wn d ∧ Cal.wn d ≤ 60 ∧ 1990 ≤ Cal.wy d ∧ Cal.wy d ≤ 2110 := by
  have h1 := Cal.yo_spec (Cal.thu d)
  have h2 := Cal.fo_succ (Cal.yo (Cal.thu d))
  have h3 := Cal.lp_01 (Cal.yo (Cal.thu d))
  have h4 := Cal.thu_bd d
  have h5 := Cal.yo_bd' (Cal.thu d) (by omega) (by omega)
  unfold Cal.wn Cal.wy
  omega
theorem decNe {a b : Int} (h : a ≠ b) : (a == b) = false := by simpa using h

set_option maxHeartbeats 4000000 in
set_option maxRecDepth 100000 in
theorem follows_any (n : Int) (w : World) (hT : Tab w) :
    Calls Tryd.prog 4 #[.int .i64 n] w fun e w' => e = .returned (.bool true) ∧ w = w' := by
  have hr := modI_range n 36524 (by decide)
  obtain ⟨a, ha⟩ : ∃ a, modI n 36524 = a := ⟨_, rfl⟩
  have c1 := hid (fun w => mod_any n 36524 (by decide) w)
  rw [ha] at c1 hr
  obtain ⟨a0, a1⟩ := hr
  clear ha
  have c2 := hid (fun w hT => parts_yes a a0 (by omega) w hT)
  have c3 := hid (fun w hT => parts_yes (a + 1) (by omega) (by omega) w hT)
  have c4 := hid (fun y m d (h : Cal.Date y m d) w hT => day_yes y m d h w hT)
  have c5 := hid (fun w => week_yes a a0 (by omega) w)
  have c6 := hid (fun w => week_yes (a + 1) (by omega) (by omega) w)
  have c7 := hid (fun w => weekday_any a w)
  have c8 := hid (fun w => weekday_any (a + 1) w)
  have hwd := wd_next a a0 (by omega)
  have hwk := wk_case a a0 (by omega)
  have hb1 := wn_bd a a0 (by omega)
  have hb2 := wn_bd (a + 1) (by omega) (by omega)
  have cA := hid awake_any
  have HT := hid hT
  clear hT
  generalize wdM (a + 1) = d1 at *
  generalize wdM a = d0 at *
  generalize Cal.wy a = u at *
  generalize Cal.wy (a + 1) = uu at *
  generalize Cal.wn a = v at *
  generalize Cal.wn (a + 1) = vv at *
  obtain ⟨hwd, hd0, hd6⟩ := hwd
  have HW := hid hwd
  have HK := hid hwk
  clear hwd hwk
  go_enter Tryd.func4, Tryd.ntmps4
  go_wp2_with fail
  refine (c1.out _).mono ?_
  rintro e w' ⟨rfl, rfl⟩
  go_wp2_with fail
  refine (c2.out _ HT.out).mono ?_
  rintro e w' ⟨⟨y, m, d, hD, hN, rfl⟩, rfl⟩
  have HD := hid hD
  have HN := hid hN
  have hy0 := hD.y0
  have hy1 := hD.y1
  have hm0 := hD.m0
  have hm1 := hD.m1
  have hdd0 := hD.d0
  have hdd1 := hD.d1
  have hll := Cal.long_bd y m
  have c9 := hid (fun w hT => day_yes y m d hD w hT)
  rw [hN] at c9
  clear hD hN
  go_wp2_with fail
  refine (c3.out _ HT.out).mono ?_
  rintro e w' ⟨⟨y', m', d', hD, hN, rfl⟩, rfl⟩
  have hs := hid (Cal.Date.next HD.out hD (by rw [hN, HN.out]))
  clear hD hN
  go_wp2_with fail
  refine (c9.out _ HT.out).mono ?_
  rintro e w' ⟨rfl, rfl⟩
  have hst := hs.out
  have hwk := HK.out
  clear hs c2 c3 c4 HD HN HK
  rcases hst with ⟨rfl, rfl, rfl⟩ | ⟨rfl, rfl, rfl, hn⟩ | ⟨rfl, rfl, rfl, rfl, hn, hne⟩
  · rcases hwk with ⟨hne, rfl, rfl⟩ | ⟨rfl, rfl, rfl⟩ | ⟨rfl, rfl, rfl, h52⟩
    · have hz : (d1 == 0) = false := by simpa using hne
      have hz' : (d1 != 0) = true := by simpa using hne
      clear hne
      go_wp2_with (first | (with_reducible (refine (c5.out _).mono ?_); rintro e w' ⟨rfl, rfl⟩) | (with_reducible (refine (c6.out _).mono ?_); rintro e w' ⟨rfl, rfl⟩) | (with_reducible (refine (c7.out _).mono ?_); rintro e w' ⟨rfl, rfl⟩) | (with_reducible (refine (c8.out _).mono ?_); rintro e w' ⟨rfl, rfl⟩) | (with_reducible (refine (cA.out _ HT.out).mono ?_); rintro e w' ⟨rfl, rfl⟩))
      go_ret
      exact ⟨by have := HW.out; simp [← this], rfl⟩
    · go_wp2_with (first | (with_reducible (refine (c5.out _).mono ?_); rintro e w' ⟨rfl, rfl⟩) | (with_reducible (refine (c6.out _).mono ?_); rintro e w' ⟨rfl, rfl⟩) | (with_reducible (refine (c7.out _).mono ?_); rintro e w' ⟨rfl, rfl⟩) | (with_reducible (refine (c8.out _).mono ?_); rintro e w' ⟨rfl, rfl⟩) | (with_reducible (refine (cA.out _ HT.out).mono ?_); rintro e w' ⟨rfl, rfl⟩))
      go_ret
      exact ⟨by have := HW.out; simp [← this], rfl⟩
    · have hz : (u == u + 1) = false := by simp; omega
      go_wp2_with (first | (with_reducible (refine (c5.out _).mono ?_); rintro e w' ⟨rfl, rfl⟩) | (with_reducible (refine (c6.out _).mono ?_); rintro e w' ⟨rfl, rfl⟩) | (with_reducible (refine (c7.out _).mono ?_); rintro e w' ⟨rfl, rfl⟩) | (with_reducible (refine (c8.out _).mono ?_); rintro e w' ⟨rfl, rfl⟩) | (with_reducible (refine (cA.out _ HT.out).mono ?_); rintro e w' ⟨rfl, rfl⟩))
      go_ret
      exact ⟨by have := HW.out; simp [← this], rfl⟩
  · clear hn
    have hf : (m + 1 == m) = false := by simp; omega
    rcases hwk with ⟨hne, rfl, rfl⟩ | ⟨rfl, rfl, rfl⟩ | ⟨rfl, rfl, rfl, h52⟩
    · have hz : (d1 == 0) = false := by simpa using hne
      have hz' : (d1 != 0) = true := by simpa using hne
      clear hne
      go_wp2_with (first | (with_reducible (refine (c5.out _).mono ?_); rintro e w' ⟨rfl, rfl⟩) | (with_reducible (refine (c6.out _).mono ?_); rintro e w' ⟨rfl, rfl⟩) | (with_reducible (refine (c7.out _).mono ?_); rintro e w' ⟨rfl, rfl⟩) | (with_reducible (refine (c8.out _).mono ?_); rintro e w' ⟨rfl, rfl⟩) | (with_reducible (refine (cA.out _ HT.out).mono ?_); rintro e w' ⟨rfl, rfl⟩))
      go_ret
      exact ⟨by have := HW.out; simp [← this], rfl⟩
    · go_wp2_with (first | (with_reducible (refine (c5.out _).mono ?_); rintro e w' ⟨rfl, rfl⟩) | (with_reducible (refine (c6.out _).mono ?_); rintro e w' ⟨rfl, rfl⟩) | (with_reducible (refine (c7.out _).mono ?_); rintro e w' ⟨rfl, rfl⟩) | (with_reducible (refine (c8.out _).mono ?_); rintro e w' ⟨rfl, rfl⟩) | (with_reducible (refine (cA.out _ HT.out).mono ?_); rintro e w' ⟨rfl, rfl⟩))
      go_ret
      exact ⟨by have := HW.out; simp [← this], rfl⟩
    · have hz : (u == u + 1) = false := by simp; omega
      go_wp2_with (first | (with_reducible (refine (c5.out _).mono ?_); rintro e w' ⟨rfl, rfl⟩) | (with_reducible (refine (c6.out _).mono ?_); rintro e w' ⟨rfl, rfl⟩) | (with_reducible (refine (c7.out _).mono ?_); rintro e w' ⟨rfl, rfl⟩) | (with_reducible (refine (c8.out _).mono ?_); rintro e w' ⟨rfl, rfl⟩) | (with_reducible (refine (cA.out _ HT.out).mono ?_); rintro e w' ⟨rfl, rfl⟩))
      go_ret
      exact ⟨by have := HW.out; simp [← this], rfl⟩
  · clear hn hne
    have hf : (y + 1 == y) = false := by simp; omega
    rcases hwk with ⟨hne, rfl, rfl⟩ | ⟨rfl, rfl, rfl⟩ | ⟨rfl, rfl, rfl, h52⟩
    · have hz : (d1 == 0) = false := by simpa using hne
      have hz' : (d1 != 0) = true := by simpa using hne
      clear hne
      go_wp2_with (first | (with_reducible (refine (c5.out _).mono ?_); rintro e w' ⟨rfl, rfl⟩) | (with_reducible (refine (c6.out _).mono ?_); rintro e w' ⟨rfl, rfl⟩) | (with_reducible (refine (c7.out _).mono ?_); rintro e w' ⟨rfl, rfl⟩) | (with_reducible (refine (c8.out _).mono ?_); rintro e w' ⟨rfl, rfl⟩) | (with_reducible (refine (cA.out _ HT.out).mono ?_); rintro e w' ⟨rfl, rfl⟩))
      go_ret
      exact ⟨by have := HW.out; simp [← this], rfl⟩
    · go_wp2_with (first | (with_reducible (refine (c5.out _).mono ?_); rintro e w' ⟨rfl, rfl⟩) | (with_reducible (refine (c6.out _).mono ?_); rintro e w' ⟨rfl, rfl⟩) | (with_reducible (refine (c7.out _).mono ?_); rintro e w' ⟨rfl, rfl⟩) | (with_reducible (refine (c8.out _).mono ?_); rintro e w' ⟨rfl, rfl⟩) | (with_reducible (refine (cA.out _ HT.out).mono ?_); rintro e w' ⟨rfl, rfl⟩))
      go_ret
      exact ⟨by have := HW.out; simp [← this], rfl⟩
    · have hz : (u == u + 1) = false := by simp; omega
      go_wp2_with (first | (with_reducible (refine (c5.out _).mono ?_); rintro e w' ⟨rfl, rfl⟩) | (with_reducible (refine (c6.out _).mono ?_); rintro e w' ⟨rfl, rfl⟩) | (with_reducible (refine (c7.out _).mono ?_); rintro e w' ⟨rfl, rfl⟩) | (with_reducible (refine (c8.out _).mono ?_); rintro e w' ⟨rfl, rfl⟩) | (with_reducible (refine (cA.out _ HT.out).mono ?_); rintro e w' ⟨rfl, rfl⟩))
      go_ret
      exact ⟨by have := HW.out; simp [← this], rfl⟩
theorem follows_below (n : Int) (w : World) (hT : Tab w) : Calls Tryd.prog 4 #[.int .i64 n] w fun e w' => e = .returned (.bool true) ∧ Below w.heap.size w w' :=
  (follows_any n w hT).mono fun _ _ h => ⟨h.1, h.2 ▸ Below.refl _ _⟩
end Go.Proofs.YtkgindnlllhioaaDoor
