/-
  When two times of the week overlap: plain mathematics. No program; conditions: the times are as made.
-/
import Derived.Test.YtaijbdknaeeoeaaDoorRS
set_option linter.unusedVariables false
namespace Go.Proofs.YtaijbdknaeeoeaaDoor
open Go Go.Lib

/-- The slot j of week i + 1 belongs to both times. -/
def hitB (k k' : Nat) (y t l y' t' l' : Int) (i j : Nat) : Bool :=
  bitB k i && (bitB k' i && (decide (y = y') && (decide (t ≤ (j : Int)) && (decide ((j : Int) < t + l) && (decide (t' ≤ (j : Int)) && decide ((j : Int) < t' + l'))))))
def rowB (k k' : Nat) (y t l y' t' l' : Int) (i j : Nat) : Bool := (List.range j).any (hitB k k' y t l y' t' l' i)
/-- What has been found ahead of slot j of week i + 1, of S slots a week. -/
def comB (k k' : Nat) (y t l y' t' l' : Int) (S i j : Nat) : Bool := (List.range i).any (fun a => rowB k k' y t l y' t' l' a S) || rowB k k' y t l y' t' l' i j
section
variable {k k' : Nat} {y t l y' t' l' : Int}
theorem com_slot (S i j : Nat) : comB k k' y t l y' t' l' S i (j + 1) = (comB k k' y t l y' t' l' S i j || hitB k k' y t l y' t' l' i j) := by
  unfold comB rowB
  rw [List.range_succ, List.any_append]
  simp [Bool.or_assoc]
theorem com_row (S i : Nat) : comB k k' y t l y' t' l' S (i + 1) 0 = comB k k' y t l y' t' l' S i S := by
  unfold comB
  rw [List.range_succ, List.any_append]
  simp [rowB]
theorem com_zero (S : Nat) : comB k k' y t l y' t' l' S 0 0 = false := by simp [comB, rowB]
theorem com_iff (S n : Nat) : comB k k' y t l y' t' l' S n 0 = true ↔ ∃ i, i < n ∧ ∃ j, j < S ∧ hitB k k' y t l y' t' l' i j = true := by
  unfold comB rowB
  simp [List.any_eq_true]
theorem hit_iff (i j : Nat) : hitB k k' y t l y' t' l' i j = true ↔ bitB k i = true ∧ bitB k' i = true ∧ y = y' ∧ t ≤ (j : Int) ∧ (j : Int) < t + l ∧ t' ≤ (j : Int) ∧ (j : Int) < t' + l' := by
  unfold hitB
  simp
end
theorem and_bits {a b n : Nat} (ha : a < 2 ^ n) : a &&& b ≠ 0 ↔ ∃ i, i < n ∧ bitB a i = true ∧ bitB b i = true := by
  constructor
  · intro h
    obtain ⟨i, hi⟩ := Nat.exists_testBit_of_ne_zero h
    rw [Nat.testBit_and, Bool.and_eq_true] at hi
    refine ⟨i, ?_, by rw [bitB_test]; exact hi.1, by rw [bitB_test]; exact hi.2⟩
    rcases Nat.lt_or_ge i n with h1 | h1
    · exact h1
    · have := bitB_top ha h1
      rw [bitB_test, hi.1] at this
      simp at this
  · rintro ⟨i, _, h1, h2⟩ h0
    rw [bitB_test] at h1 h2
    have : (a &&& b).testBit i = true := by rw [Nat.testBit_and, h1, h2]; rfl
    rw [h0, Nat.zero_testBit] at this
    simp at this
theorem bits_comm (a b : Nat) (ha : a < 9223372036854775808) (hb : b < 9223372036854775808) : bits .and .i64 (a : Int) (b : Int) = bits .and .i64 (b : Int) (a : Int) := by
  rw [bw_and a b ha hb, bw_and b a hb ha, Nat.and_comm]
theorem gap_comm (t l t' l' : Int) : gapI t l t' l' = gapI t' l' t l := by unfold gapI; omega
theorem gap_ge (t l t' l' : Int) : -1 ≤ gapI t l t' l' := by unfold gapI; omega
theorem gap_neg {t l t' l' : Int} : gapI t l t' l' < 0 ↔ t < t' + l' ∧ t' < t + l ∧ t < t + l ∧ t' < t' + l' := by unfold gapI; omega
section
variable {a b : Nat} {y t l y' t' l' : Int} {n : Nat} {d s : Int}
theorem bet_comm (ha : a < 9223372036854775808) (hb : b < 9223372036854775808) : betM b y' t' l' a y t l = betM a y t l b y' t' l' := by
  unfold betM meetB
  rw [bits_comm b a hb ha, gap_comm t' l' t l]
  by_cases h : soundB a y t l = true ∧ soundB b y' t' l' = true ∧ bits .and .i64 (a : Int) (b : Int) ≠ 0 ∧ y = y'
  · rw [decide_eq_true h, decide_eq_true (show _ ∧ _ from ⟨h.2.1, h.1, h.2.2.1, h.2.2.2.symm⟩)]
  · rw [decide_eq_false h, decide_eq_false (fun k => h ⟨k.2.1, k.1, k.2.2.1, k.2.2.2.symm⟩)]
theorem over_com {S : Nat} (hsd : soundB a y t l = true) (hsd' : soundB b y' t' l' = true) (h : MadeT d (S : Int) n a y t l) (h' : MadeT d (S : Int) n b y' t' l') (hn : n ≤ 8) :
    overB a y t l b y' t' l' = comB a b y t l y' t' l' S n 0 := by
  obtain ⟨⟨p1, p2⟩, q, ⟨r1, r2⟩, u1, u2⟩ := h
  obtain ⟨⟨p1', p2'⟩, q', ⟨r1', r2'⟩, u1', u2'⟩ := h'
  have e : (2 : Int) ^ n = ((2 ^ n : Nat) : Int) := by rw [Int.natCast_pow]; rfl
  have hpn : 2 ^ n ≤ 2 ^ 8 := pow_le hn
  have ha : a < 2 ^ n := by omega
  have hb : b < 2 ^ n := by omega
  rw [Bool.eq_iff_iff, com_iff]
  unfold overB
  rw [Bool.and_eq_true, decide_eq_true_eq]
  constructor
  · rintro ⟨h1, h2⟩
    unfold betM at h1 h2
    by_cases hm : meetB a y t l b y' t' l' = true
    · rw [if_pos hm] at h2
      obtain ⟨_, _, hbits, hy⟩ := of_decide_eq_true hm
      rw [bw_and a b (by omega) (by omega)] at hbits
      obtain ⟨i, hi, b1, b2⟩ := (and_bits ha (b := b)).1 (by omega)
      obtain ⟨g1, g2, g3, g4⟩ := gap_neg.1 h2
      have hj : ∃ j : Nat, (j : Int) = max t t' := ⟨(max t t').toNat, by omega⟩
      obtain ⟨j, hj⟩ := hj
      exact ⟨i, hi, j, by omega, (hit_iff i j).2 ⟨b1, b2, hy, by omega, by omega, by omega, by omega⟩⟩
    · rw [if_neg hm] at h1
      simp at h1
  · rintro ⟨i, hi, j, hj, hh⟩
    obtain ⟨b1, b2, hy, c1, c2, c3, c4⟩ := (hit_iff i j).1 hh
    have hm : meetB a y t l b y' t' l' = true := decide_eq_true ⟨hsd, hsd', by
      rw [bw_and a b (by omega) (by omega)]
      have := (and_bits ha (b := b)).2 ⟨i, hi, b1, b2⟩
      omega, hy⟩
    unfold betM
    rw [if_pos hm]
    exact ⟨rfl, gap_neg.2 ⟨by omega, by omega, by omega, by omega⟩⟩
/-- Every way in which two times can stand to each other. -/
theorem stand {cm : Bool} (hc : overB a y t l b y' t' l' = cm) {N : Int} {O : Bool} (hR : betM a y t l b y' t' l' = (N, O)) {P P' : Bool} (hP : befB a y t l b y' t' l' = P) (hP' : befB b y' t' l' a y t l = P')
    (h1 : 1 ≤ l) (h1' : 1 ≤ l') :
    (O = false ∧ N = 0 ∧ cm = false ∧ (P = false ∨ P = true ∧ P' = false)) ∨ (O = true ∧ N = -1 ∧ cm = true ∧ y = y' ∧ P = false) ∨ (O = true ∧ N ≠ -1 ∧ cm = false ∧ y = y' ∧ (P = false ∨ P = true ∧ P' = false)) := by
  have hPP : P = false ∨ P = true ∧ P' = false := by
    cases P with
    | false => exact .inl rfl
    | true =>
      refine .inr ⟨rfl, ?_⟩
      obtain ⟨_, _, c1⟩ : soundB a y t l = true ∧ soundB b y' t' l' = true ∧ (y < y' ∨ y = y' ∧ t + l ≤ t') := of_decide_eq_true hP
      rw [← hP']
      refine decide_eq_false (fun h => ?_)
      have := h.2.2
      omega
  unfold overB at hc
  rw [hR] at hc
  dsimp only at hc
  unfold betM at hR
  by_cases hm : meetB a y t l b y' t' l' = true
  · rw [if_pos hm] at hR
    injection hR with h2 h3
    subst h3
    obtain ⟨_, _, _, hy⟩ := of_decide_eq_true hm
    have hge := gap_ge t l t' l'
    rw [h2] at hge
    rw [Bool.true_and] at hc
    by_cases hn : N = -1
    · refine .inr (.inl ⟨rfl, hn, by rw [← hc]; exact decide_eq_true (by omega), hy, ?_⟩)
      rw [← hP]
      refine decide_eq_false (fun h => ?_)
      have := h.2.2
      obtain ⟨g1, g2, g3, g4⟩ := gap_neg.1 (show gapI t l t' l' < 0 by omega)
      omega
    · exact .inr (.inr ⟨rfl, hn, by rw [← hc]; exact decide_eq_false (by omega), hy, hPP⟩)
  · rw [if_neg hm] at hR
    injection hR with h2 h3
    subst h2 h3
    exact .inl ⟨rfl, rfl, by rw [← hc]; rfl, hPP⟩
end
end Go.Proofs.YtaijbdknaeeoeaaDoor
