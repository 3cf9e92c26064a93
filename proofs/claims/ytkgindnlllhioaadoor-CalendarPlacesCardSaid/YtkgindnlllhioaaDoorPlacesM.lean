/-
  Places and days of a made term, as plain mathematics: each day that is no holiday has its place, the holidays are counted once, the days of a time ascend. No conditions beyond those of each lemma.
-/
import Derived.Test.YtkgindnlllhioaaDoorTermM
set_option linter.unusedVariables false
namespace Go.Proofs.YtkgindnlllhioaaDoor
namespace Cal

/-- A term whose holidays ascend and lie in it is valid. -/
theorem hol_zero {lo hi : Int} {L : List Int} (hin : ∀ k, k < L.length → lo ≤ L.getD k 0 ∧ L.getD k 0 ≤ hi) (hasc : ∀ k, k + 1 < L.length → L.getD k 0 < L.getD (k + 1) 0) : ∀ (n k : Nat), L.length - k = n → holM lo hi L k = 0
  | 0, k, h => holM_end _ _ _ _ (by omega)
  | n + 1, k, h => by
    rw [holM_on (by omega) (hin k (by omega)) ?_]
    · exact hol_zero hin hasc n (k + 1) (by omega)
    · rintro ⟨h0, h1⟩
      have := hasc (k - 1) (by omega)
      rw [show k - 1 + 1 = k by omega] at this
      omega
theorem made_term {F W a : Int} {L : List Int} (h0 : 0 ≤ a) (h1 : a < 5000) (hF : F = 2 + 7 * a) (w0 : 1 ≤ W) (w1 : W ≤ 8) (hl : L.length ≤ 4)
    (hin : ∀ k, k < L.length → F ≤ L.getD k 0 ∧ L.getD k 0 < F + 7 * W) (hasc : ∀ k, k + 1 < L.length → L.getD k 0 < L.getD (k + 1) 0) : Term F W L :=
  ⟨by omega, by omega, w0, by omega, by omega, by omega, hol_zero (fun k hk => ⟨(hin k hk).1, by have := (hin k hk).2; omega⟩) hasc _ 0 rfl⟩

/-- How many holidays lie before a day. -/
def cb (L : List Int) (x : Int) : Nat := (L.filter (fun d => decide (d < x))).length
theorem asc_lt {L : List Int} (hasc : ∀ k, k + 1 < L.length → L.getD k 0 < L.getD (k + 1) 0) : ∀ (n i j : Nat), j = i + n + 1 → j < L.length → L.getD i 0 < L.getD j 0
  | 0, i, j, e, h => by subst e; exact hasc i h
  | n + 1, i, j, e, h => by
    have h1 := asc_lt hasc n i (i + n + 1) rfl (by omega)
    have h2 := hasc (i + n + 1) (by omega)
    rw [show j = i + n + 1 + 1 by omega]
    omega
theorem asc_pair {L : List Int} (hasc : ∀ k, k + 1 < L.length → L.getD k 0 < L.getD (k + 1) 0) : L.Pairwise (· < ·) := by
  rw [List.pairwise_iff_getElem]
  intro i j hi hj hij
  have := asc_lt hasc (j - i - 1) i j (by omega) hj
  simpa [List.getD, List.getElem?_eq_getElem hi, List.getElem?_eq_getElem hj] using this
theorem cb_step : ∀ {L : List Int} (hp : L.Pairwise (· < ·)) (x : Int), cb L (x + 1) = cb L x + (if x ∈ L then 1 else 0)
  | [], _, x => by simp [cb]
  | d :: r, hp, x => by
    obtain ⟨h1, h2⟩ := List.pairwise_cons.1 hp
    have ih := cb_step h2 x
    unfold cb at ih ⊢
    by_cases e : d = x
    · have hnot : x ∉ r := fun hm => by have := h1 x hm; omega
      rw [if_neg hnot] at ih
      subst e
      simp [List.filter_cons, ih, show d < d + 1 by omega]
    · by_cases hlt : d < x
      · have : d < x + 1 := by omega
        have hm : (x ∈ d :: r) ↔ x ∈ r := by simp [Ne.symm e]
        simp only [List.filter_cons, hlt, this, decide_true, if_true, List.length_cons, ih, hm]
        omega
      · have : ¬ d < x + 1 := by omega
        have hm : (x ∈ d :: r) ↔ x ∈ r := by simp [Ne.symm e]
        simp only [List.filter_cons, hlt, this, decide_false, Bool.false_eq_true, if_false, ih, hm]
theorem cb_none {L : List Int} {x : Int} (h : ∀ d ∈ L, x ≤ d) : cb L x = 0 := by
  unfold cb
  rw [List.length_eq_zero_iff, List.filter_eq_nil_iff]
  intro d hd
  have := h d hd
  simp; omega
theorem cb_all {L : List Int} {x : Int} (h : ∀ d ∈ L, d < x) : cb L x = L.length := by
  unfold cb
  rw [List.filter_eq_self.2]
  intro d hd
  simpa using h d hd
theorem cb_le (L : List Int) (x : Int) : cb L x ≤ L.length := List.length_filter_le _ _

/-- What Days yields, so far. -/
structure DaysOk (F W : Int) (L : List Int) (S d : Int) (k : Nat) (l : List Int) : Prop where
  each : ∀ j, j < l.length → ∃ i : Nat, i < k ∧ bitB S i = true ∧ atB F W L (i + 1) d = true ∧ l.getD j 0 = F + 7 * i + d
  asc : ∀ j, j + 1 < l.length → l.getD j 0 < l.getD (j + 1) 0
theorem getD_app (l : List Int) (x : Int) (k : Nat) : (l ++ [x]).getD k 0 = if k < l.length then l.getD k 0 else if k = l.length then x else 0 := by
  by_cases h : k < l.length
  · rw [if_pos h]; simp [List.getD, List.getElem?_append_left h]
  · rw [if_neg h]
    by_cases e : k = l.length
    · subst e; simp [List.getD]
    · rw [if_neg e]; simp [List.getD, List.getElem?_eq_none (show (l ++ [x]).length ≤ k by simp; omega)]
theorem days_ok (F W : Int) (L : List Int) (S d : Int) : ∀ k, DaysOk F W L S d k (daysF F W L S d k)
  | 0 => ⟨fun j hj => by simp [daysF_zero] at hj, fun j hj => by simp [daysF_zero] at hj⟩
  | k + 1 => by
    have ih := days_ok F W L S d k
    by_cases h : bitB S k = true ∧ atB F W L (k + 1) d = true
    · rw [daysF_yes h.1 h.2]
      have e : atM F W L (k + 1) d = F + 7 * k + d := by unfold atM; rw [h.2]; simp
      rw [e]
      refine ⟨fun j hj => ?_, fun j hj => ?_⟩
      · rw [getD_app]
        by_cases hj' : j < (daysF F W L S d k).length
        · rw [if_pos hj']
          obtain ⟨i, a, b, c, e⟩ := ih.each j hj'
          exact ⟨i, by omega, b, c, e⟩
        · have : j = (daysF F W L S d k).length := by simp at hj; omega
          rw [if_neg hj', if_pos this]
          exact ⟨k, by omega, h.1, h.2, rfl⟩
      · rw [getD_app, getD_app]
        simp at hj
        by_cases hj' : j + 1 < (daysF F W L S d k).length
        · rw [if_pos (by omega), if_pos hj']
          exact ih.asc j hj'
        · rw [if_pos (by omega), if_neg hj', if_pos (by omega)]
          obtain ⟨i, a, _, _, e⟩ := ih.each j (by omega)
          omega
    · have h' : bitB S k = false ∨ atB F W L (k + 1) d = false := by
        cases h1 : bitB S k <;> cases h2 : atB F W L (k + 1) d <;> simp_all
      rw [daysF_no h']
      exact ⟨fun j hj => by
        obtain ⟨i, a, b, c, e⟩ := ih.each j hj
        exact ⟨i, by omega, b, c, e⟩, ih.asc⟩
/-- At most as many days as weeks. -/
theorem days_few {F W : Int} {L : List Int} {S d : Int} (hW : 0 ≤ W) : ∀ k : Nat, ((daysF F W L S d k).length : Int) ≤ W ∧ (daysF F W L S d k).length ≤ k
  | 0 => ⟨by simp [daysF_zero]; exact hW, by simp [daysF_zero]⟩
  | k + 1 => by
    obtain ⟨h1, h2⟩ := days_few (F := F) (L := L) (S := S) (d := d) hW k
    by_cases h : bitB S k = true ∧ atB F W L (k + 1) d = true
    · rw [daysF_yes h.1 h.2]
      have := (of_decide_eq_true h.2).2.2.1
      simp
      omega
    · have h' : bitB S k = false ∨ atB F W L (k + 1) d = false := by
        cases h1 : bitB S k <;> cases h2 : atB F W L (k + 1) d <;> simp_all
      rw [daysF_no h']
      exact ⟨h1, by omega⟩
theorem days_few' {F W : Int} {L : List Int} {S d : Int} (hW : 0 ≤ W) : ((daysM F W L S d).length : Int) ≤ W := by
  unfold daysM
  split
  · simp; exact hW
  · exact (days_few hW 20).1
/-- Each day that Days yields. -/
theorem days_each {F W : Int} {L : List Int} {S d : Int} {j : Nat} (h : j < (daysM F W L S d).length) :
    0 ≤ S ∧ ∃ i : Nat, i < 20 ∧ bitB S i = true ∧ atB F W L (i + 1) d = true ∧ (daysM F W L S d).getD j 0 = F + 7 * i + d := by
  unfold daysM at h ⊢
  split at h
  · simp at h
  · rename_i hS
    rw [if_neg hS]
    exact ⟨by omega, (days_ok F W L S d 20).each j h⟩
theorem days_asc {F W : Int} {L : List Int} {S d : Int} {j : Nat} (h : j + 1 < (daysM F W L S d).length) : (daysM F W L S d).getD j 0 < (daysM F W L S d).getD (j + 1) 0 := by
  unfold daysM at h ⊢
  split at h
  · simp at h
  · rename_i hS
    rw [if_neg hS]
    exact (days_ok F W L S d 20).asc j h
/-- The place of the day of a place. -/
theorem where_at {F W : Int} {L : List Int} {k d : Int} (h : atB F W L k d = true) : whereB F W L (F + 7 * (k - 1) + d) = true ∧ whereW F W L (F + 7 * (k - 1) + d) = k ∧ whereD F W L (F + 7 * (k - 1) + d) = d := by
  obtain ⟨hv, h1, h2, h3, h4, h5⟩ := of_decide_eq_true h
  have hb : whereB F W L (F + 7 * (k - 1) + d) = true := decide_eq_true ⟨hv, by omega, by omega, h5⟩
  refine ⟨hb, ?_, ?_⟩
  · unfold whereW; rw [hb]; simp; omega
  · unfold whereD; rw [hb]; simp; omega
end Cal
end Go.Proofs.YtkgindnlllhioaaDoor
