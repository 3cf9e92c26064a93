/-
  The text of a set: plain mathematics. No program, no conditions.
-/
import Derived.Test.YtmmphjpakoimcaaDoorAA
set_option linter.unusedVariables false
namespace Go.Proofs.YtmmphjpakoimcaaDoor
open Go Go.Lib

theorem dec_dec2 (u : Nat) (h : u < 100) : decDigits u = dec2 u := by
  unfold dec2
  by_cases hu : u < 10
  · rw [if_pos hu]
    exact Lib.decDigits_one hu
  · rw [if_neg hu, decDigits, dif_neg hu, Lib.decDigits_one (show u / 10 < 10 by omega)]
    rfl
/-- The weeks from the i-th bit on, of k bits. -/
def wF (s : Nat) : Nat → Nat → List Nat
  | _, 0 => []
  | i, k + 1 => if bitB s i = true then (i + 1) :: wF s (i + 1) k else wF s (i + 1) k
theorem wF_yes {s i k : Nat} (h : bitB s i = true) : wF s i (k + 1) = (i + 1) :: wF s (i + 1) k := if_pos h
theorem wF_no {s i k : Nat} (h : bitB s i = false) : wF s i (k + 1) = wF s (i + 1) k := if_neg (by rw [h]; simp)
theorem weeksP_wF (s : Nat) : ∀ k i, weeksP s i ++ wF s i k = weeksP s (i + k)
  | 0, i => by simp [wF]
  | k + 1, i => by
    have ih := weeksP_wF s k (i + 1)
    rw [show i + (k + 1) = i + 1 + k by omega, ← ih]
    cases h : bitB s i with
    | true => rw [wF_yes h, weeksP_yes h, List.append_assoc]; rfl
    | false => rw [wF_no h, weeksP_no h]
theorem wF_all (s n : Nat) : wF s 0 n = weeksP s n := by
  have := weeksP_wF s n 0
  rw [Nat.zero_add] at this
  exact this
theorem wF_gt (s : Nat) : ∀ k i x, x ∈ wF s i k → i < x
  | 0, i, x, h => by simp [wF] at h
  | k + 1, i, x, h => by
    cases hb : bitB s i with
    | true =>
      rw [wF_yes hb] at h
      rcases List.mem_cons.1 h with rfl | h
      · omega
      · have := wF_gt s k (i + 1) x h; omega
    | false =>
      rw [wF_no hb] at h
      have := wF_gt s k (i + 1) x h
      omega
/-- How many bits from the i-th on are set, of k. -/
def cB (s : Nat) : Nat → Nat → Nat
  | _, 0 => 0
  | i, k + 1 => if bitB s i = true then cB s (i + 1) k + 1 else 0
theorem cB_le (s : Nat) : ∀ k i, cB s i k ≤ k
  | 0, i => Nat.le_refl _
  | k + 1, i => by
    have := cB_le s k (i + 1)
    unfold cB
    split <;> omega
theorem cB_bit (s : Nat) : ∀ k i j, j < cB s i k → bitB s (i + j) = true
  | 0, i, j, h => by simp [cB] at h
  | k + 1, i, j, h => by
    unfold cB at h
    split at h
    · rename_i hb
      cases j with
      | zero => exact hb
      | succ j =>
        have := cB_bit s k (i + 1) j (by omega)
        rw [show i + (j + 1) = i + 1 + j by omega]
        exact this
    · omega
theorem cB_end (s : Nat) : ∀ k i, cB s i k < k → bitB s (i + cB s i k) = false
  | 0, i, h => by omega
  | k + 1, i, h => by
    unfold cB at h ⊢
    split at h
    · rename_i hb
      rw [if_pos hb]
      have := cB_end s k (i + 1) (by omega)
      rw [show i + (cB s (i + 1) k + 1) = i + 1 + cB s (i + 1) k by omega]
      exact this
    · rename_i hb
      rw [if_neg hb]
      simpa using hb
theorem cnt_wF (s : Nat) : ∀ k i, cnt i (wF s i k) = cB s i k
  | 0, i => rfl
  | k + 1, i => by
    cases hb : bitB s i with
    | true =>
      rw [wF_yes hb]
      unfold cnt cB
      rw [if_pos rfl, if_pos hb, cnt_wF s k (i + 1)]
    | false =>
      rw [wF_no hb]
      have e : cB s i (k + 1) = 0 := if_neg (by rw [hb]; simp)
      rw [e]
      cases hl : wF s (i + 1) k with
      | nil => rfl
      | cons x l =>
        have := wF_gt s k (i + 1) x (by rw [hl]; simp)
        unfold cnt
        rw [if_neg (by omega)]
theorem drop_wF (s : Nat) : ∀ k i c, c ≤ cB s i k → (wF s i k).drop c = wF s (i + c) (k - c)
  | k, i, 0, _ => by simp
  | 0, i, c + 1, h => by simp [cB] at h
  | k + 1, i, c + 1, h => by
    unfold cB at h
    split at h
    · rename_i hb
      rw [wF_yes hb, List.drop_succ_cons, drop_wF s k (i + 1) c (by omega)]
      congr 1 <;> omega
    · omega
theorem runs_nil : runs [] = [] := by rw [runs]
theorem runs_cons (a : Nat) (l : List Nat) : runs (a :: l) = (a, a + cnt a l) :: runs (l.drop (cnt a l)) := by rw [runs]
/-- The items that are left. -/
def itemsF (s i k : Nat) : List Str := (runs (wF s i k)).map fun r => itemT r.1 r.2
theorem items_no {s i k : Nat} (h : bitB s i = false) : itemsF s i (k + 1) = itemsF s (i + 1) k := by unfold itemsF; rw [wF_no h]
theorem items_yes {s i k : Nat} (h : bitB s i = true) : itemsF s i (k + 1) = itemT (i + 1) (i + 1 + cB s (i + 1) k) :: itemsF s (i + 1 + cB s (i + 1) k) (k - cB s (i + 1) k) := by
  unfold itemsF
  rw [wF_yes h, runs_cons, cnt_wF, drop_wF s k (i + 1) _ (Nat.le_refl _)]
  rfl
/-- Behind a run the next bit is not set. -/
theorem items_skip {s i k : Nat} : itemsF s (i + cB s i k) (k - cB s i k) = itemsF s (i + cB s i k + 1) (k - cB s i k - 1) := by
  have hle := cB_le s k i
  rcases Nat.lt_or_ge (cB s i k) k with h | h
  · have hb := cB_end s k i h
    obtain ⟨m, hm⟩ : ∃ m, k - cB s i k = m + 1 := ⟨k - cB s i k - 1, by omega⟩
    rw [hm, items_no hb]
    rfl
  · have : k - cB s i k = 0 := by omega
    rw [this]
    rfl
theorem textM_items {s n : Nat} (hs : s < 2 ^ n) (hn : n ≤ 20) : textM s = joinC (itemsF s 0 n) := by
  unfold textM itemsF
  rw [wF_all, show (20 : Nat) = n + (20 - n) by omega, weeksP_top hs]
theorem joinC_snoc : ∀ (l : List Str) (x : Str), l ≠ [] → joinC (l ++ [x]) = joinC l ++ 44 :: x
  | [], x, h => absurd rfl h
  | [a], x, _ => by simp [joinC]
  | a :: b :: l, x, _ => by
    have ih := joinC_snoc (b :: l) x (by simp)
    have e1 : joinC (a :: b :: l ++ [x]) = a ++ 44 :: joinC ((b :: l) ++ [x]) := rfl
    have e2 : joinC (a :: b :: l) = a ++ 44 :: joinC (b :: l) := rfl
    rw [e1, ih, e2]
    simp
theorem dec2_ne (u : Nat) : dec2 u ≠ [] := by unfold dec2; split <;> simp
theorem itemT_ne (a b : Nat) : itemT a b ≠ [] := by
  have := dec2_ne a
  unfold itemT
  split
  · exact this
  · simp [this]
theorem joinC_ne : ∀ (l : List Str), (∀ x ∈ l, x ≠ []) → l ≠ [] → joinC l ≠ []
  | [], _, h => absurd rfl h
  | [a], h, _ => h a (by simp)
  | a :: b :: l, h, _ => by simp [joinC, h a (by simp)]
theorem dec2_len (u : Nat) : (dec2 u).length ≤ 2 := by unfold dec2; split <;> simp
theorem itemT_len (a b : Nat) : (itemT a b).length ≤ 5 := by
  have h1 := dec2_len a
  have h2 := dec2_len b
  unfold itemT
  split <;> simp <;> omega
theorem joinC_len : ∀ (l : List Str), (∀ x ∈ l, x.length ≤ 5) → (joinC l).length ≤ 6 * l.length
  | [], _ => by simp [joinC]
  | [a], h => by have := h a (by simp); simp [joinC]; omega
  | a :: b :: l, h => by
    have := joinC_len (b :: l) (fun x hx => h x (List.mem_cons_of_mem _ hx))
    have h1 := h a (by simp)
    simp [joinC] at this ⊢
    omega
theorem joinC_lib : ∀ (l : List Str), Lib.join l [44] = joinC l
  | [] => rfl
  | [a] => by rw [Lib.join_one]; rfl
  | a :: b :: l => by
    have ih := joinC_lib (b :: l)
    have e : Lib.join (a :: b :: l) [44] = a ++ 44 :: Lib.join (b :: l) [44] := by
      unfold Lib.join
      simp [List.intercalate]
    rw [e, ih]
    rfl
theorem runs_len : ∀ (k : Nat) (l : List Nat), l.length ≤ k → (runs l).length ≤ l.length
  | 0, l, hl => by
    obtain rfl : l = [] := List.eq_nil_of_length_eq_zero (by omega)
    simp [runs_nil]
  | k + 1, [], hl => by simp [runs_nil]
  | k + 1, a :: l, hl => by
    rw [runs_cons]
    have := runs_len k (l.drop (cnt a l)) (by simp at hl ⊢; omega)
    simp at this ⊢
    omega
end Go.Proofs.YtmmphjpakoimcaaDoor
