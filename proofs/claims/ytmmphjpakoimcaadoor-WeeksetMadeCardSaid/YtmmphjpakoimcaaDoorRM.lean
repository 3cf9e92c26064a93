/-
  What is written is read: plain mathematics. No program, no conditions.
-/
import Derived.Test.YtmmphjpakoimcaaDoorFM
set_option linter.unusedVariables false
namespace Go.Proofs.YtmmphjpakoimcaaDoor
open Go Go.Lib

theorem split_one : ∀ (x : Str), has 44 x = false → splitL x = [x] := fun x h => by rw [splitL_has, if_neg (by rw [h]; simp)]
theorem split_app : ∀ (x y : Str), splitL (x ++ 44 :: y) = splitL x ++ splitL y
  | [], y => by simp [splitL]
  | c :: x, y => by
    have ih := split_app x y
    rw [List.cons_append]
    by_cases hc : c = 44
    · subst hc
      simp only [splitL, if_true, ih, List.cons_append]
    · simp only [splitL, if_neg hc, ih]
      have hne : splitL x ≠ [] := by
        cases x with
        | nil => simp [splitL]
        | cons c s => simp only [splitL]; split <;> simp
      obtain ⟨a, t, hat⟩ : ∃ a t, splitL x = a :: t := by cases hs : splitL x with | nil => exact absurd hs hne | cons a t => exact ⟨a, t, rfl⟩
      rw [hat]
      simp
theorem split_join : ∀ (l : List Str), l ≠ [] → (∀ x ∈ l, has 44 x = false) → splitL (joinC l) = l
  | [], h, _ => absurd rfl h
  | [x], _, h => split_one x (h x (by simp))
  | x :: y :: l, _, h => by
    have ih := split_join (y :: l) (by simp) (fun z hz => h z (List.mem_cons_of_mem _ hz))
    have e : joinC (x :: y :: l) = x ++ 44 :: joinC (y :: l) := rfl
    rw [e, split_app, ih, split_one x (h x (by simp))]
    rfl
theorem item_table : ∀ a b : Fin 21, 1 ≤ a.val → a.val ≤ b.val → kindOf (itemT a.val b.val) = none ∧ fromN (itemT a.val b.val) = a.val ∧ toN (itemT a.val b.val) = b.val ∧ has 44 (itemT a.val b.val) = false := by decide +kernel
theorem item_text {a b n : Nat} (h1 : 1 ≤ a) (h2 : a ≤ b) (h3 : b ≤ n) (h4 : n ≤ 20) : itemM (itemT a b) n = (spanN a b, 0) ∧ has 44 (itemT a b) = false := by
  obtain ⟨k1, k2, k3, k4⟩ := item_table ⟨a, by omega⟩ ⟨b, by omega⟩ h1 h2
  dsimp only at k1 k2 k3 k4
  refine ⟨?_, k4⟩
  unfold itemM
  rw [k1]
  show numM (itemT a b) n = _
  unfold numM
  rw [k2, k3, if_neg (by omega), if_neg (by omega)]
def orR (rs : List (Nat × Nat)) (acc : Nat) : Nat := rs.foldl (fun acc r => acc ||| spanN r.1 r.2) acc
theorem go_runs {n : Nat} (hn : n ≤ 20) : ∀ (rs : List (Nat × Nat)) (acc : Nat), (∀ r ∈ rs, 1 ≤ r.1 ∧ r.1 ≤ r.2 ∧ r.2 ≤ n) → goP n (rs.map fun r => itemT r.1 r.2) acc = (orR rs acc, 0)
  | [], acc, _ => rfl
  | r :: rs, acc, h => by
    obtain ⟨a, b, c⟩ := h r (by simp)
    have hi := (item_text a b c hn).1
    rw [List.map_cons, goP_ok (by rw [hi]), hi]
    exact go_runs hn rs _ (fun x hx => h x (List.mem_cons_of_mem _ hx))
theorem orR_bit : ∀ (rs : List (Nat × Nat)) (acc i : Nat), (∀ r ∈ rs, 1 ≤ r.1 ∧ r.1 ≤ r.2) → ((orR rs acc).testBit i = true ↔ acc.testBit i = true ∨ ∃ r ∈ rs, r.1 ≤ i + 1 ∧ i + 1 ≤ r.2)
  | [], acc, i, _ => by simp [orR]
  | r :: rs, acc, i, h => by
    obtain ⟨a, b⟩ := h r (by simp)
    have ih := orR_bit rs (acc ||| spanN r.1 r.2) i (fun x hx => h x (List.mem_cons_of_mem _ hx))
    show (orR rs (acc ||| spanN r.1 r.2)).testBit i = true ↔ _
    rw [ih, Nat.testBit_or, span_bit a (by omega)]
    simp only [Bool.or_eq_true, decide_eq_true_eq, List.mem_cons, exists_eq_or_imp]
    constructor
    · rintro ((h | ⟨h1, h2⟩) | h)
      · exact .inl h
      · exact .inr (.inl ⟨h1, by omega⟩)
      · exact .inr (.inr h)
    · rintro (h | ⟨h1, h2⟩ | h)
      · exact .inl (.inl h)
      · exact .inl (.inr ⟨h1, by omega⟩)
      · exact .inr h
theorem runs_ok {s n : Nat} (hs : s < 2 ^ n) (hn : n ≤ 20) : ∀ r ∈ runs (weeksP s 20), 1 ≤ r.1 ∧ r.1 ≤ r.2 ∧ r.2 ≤ n := fun r hr => by
  obtain ⟨h1, h2, h3⟩ := runs_mem _ _ (Nat.le_refl _) r hr
  have m1 := (mem_weeksP s 20 _).1 h1
  have m3 := (mem_weeksP s 20 _).1 h3
  refine ⟨m1.1, h2, ?_⟩
  rcases Nat.lt_or_ge n r.2 with h | h
  · have := bitB_top hs (show n ≤ r.2 - 1 by omega)
    rw [this] at m3
    simp at m3
  · exact h
theorem orR_runs {s n : Nat} (hs : s < 2 ^ n) (hn : n ≤ 20) : orR (runs (weeksP s 20)) 0 = s := by
  apply Nat.eq_of_testBit_eq
  intro i
  have h := orR_bit (runs (weeksP s 20)) 0 i (fun r hr => by have := runs_ok hs hn r hr; omega)
  rw [← mem_runs _ _ (Nat.le_refl _), mem_weeksP] at h
  rw [Bool.eq_iff_iff, h]
  simp only [Nat.zero_testBit, Bool.false_eq_true, false_or, Nat.add_sub_cancel, bitB_test]
  constructor
  · exact fun h => h.2.2
  · intro h
    refine ⟨by omega, ?_, h⟩
    rcases Nat.lt_or_ge i 20 with h' | h'
    · omega
    · have := bitB_top hs (show n ≤ i by omega)
      rw [bitB_test, h] at this
      simp at this
theorem word_split : ∀ k : Fin 5, has 44 (wordS k.val) = false ∧ kindOf (wordS k.val) = some k.val := by decide
theorem nameK_of {s n k : Nat} (h : nameK s n = some k) : k < 5 ∧ nmM k n = s := by
  unfold nameK at h
  have h1 := List.mem_of_find?_eq_some h
  have h2 := List.find?_some h
  exact ⟨List.mem_range.1 h1, of_decide_eq_true h2⟩
theorem go_word {n k : Nat} (hk : k < 5) (acc : Nat) : goP n (splitL (wordS k)) acc = (acc ||| nmM k n, 0) := by
  obtain ⟨h1, h2⟩ := word_split ⟨k, hk⟩
  dsimp only at h1 h2
  have hi : itemM (wordS k) n = (nmM k n, 0) := by unfold itemM; rw [h2]
  rw [split_one _ h1, goP_ok (by rw [hi]), hi]
  rfl
/-- The text of a set means the set. -/
theorem form_go {s n : Nat} (h1 : 1 ≤ s) (hs : s < 2 ^ n) (hn : n ≤ 20) : goP n (splitL (formN s n)) 0 = (s, 0) := by
  unfold formN
  cases hk : nameK s n with
  | some k =>
    obtain ⟨h5, he⟩ := nameK_of hk
    show goP n (splitL (wordS k)) 0 = _
    rw [go_word h5, he, Nat.zero_or]
  | none =>
    show goP n (splitL (textM s)) 0 = _
    have hr := runs_ok hs hn
    have hne : runs (weeksP s 20) ≠ [] := fun e => by
      have := orR_runs hs hn
      rw [e] at this
      simp [orR] at this
      omega
    unfold textM
    rw [split_join _ (by simpa using hne) (fun x hx => by
      obtain ⟨r, hr', rfl⟩ := List.mem_map.1 hx
      obtain ⟨a, b, c⟩ := hr r hr'
      exact (item_text a b c hn).2), go_runs hn _ 0 hr, orR_runs hs hn]
theorem parse_form {s n : Nat} (h1 : 1 ≤ s) (hs : s < 2 ^ n) (hn1 : 1 ≤ n) (hn : n ≤ 20) : parseM (formN s n) (n : Int) = (s, 0) := by
  unfold parseM
  rw [if_pos ⟨by omega, by omega⟩, Int.toNat_natCast]
  unfold parseN
  rw [form_go h1 hs hn, if_neg (by simp), if_neg (by show ¬ s = 0; omega)]
theorem go_acc (n : Nat) : ∀ xs acc, (goP n xs 0).2 = 0 → goP n xs acc = (acc ||| (goP n xs 0).1, 0)
  | [], acc, _ => by simp [goP]
  | x :: xs, acc, h => by
    by_cases hx : (itemM x n).2 = 0
    · rw [goP_ok hx] at h ⊢
      rw [goP_ok hx]
      have h0 : (goP n xs 0).2 = 0 := by
        rcases Int.decEq (goP n xs 0).2 0 with h' | h'
        · exfalso
          have := goP_two n xs (0 ||| (itemM x n).1)
          rw [this] at h
          exact h' h
        · exact h'
      rw [go_acc n xs _ h0, go_acc n xs (0 ||| (itemM x n).1) h0]
      simp [Nat.or_assoc]
    · rw [goP_err hx] at h
      exact absurd h hx
where goP_two (n : Nat) : ∀ xs acc, (goP n xs acc).2 = (goP n xs 0).2
  | [], _ => rfl
  | x :: xs, acc => by
    by_cases hx : (itemM x n).2 = 0
    · rw [goP_ok hx, goP_ok hx, goP_two n xs (acc ||| _), goP_two n xs (0 ||| _)]
    · rw [goP_err hx, goP_err hx]
theorem parse_two {s t n : Nat} (h1 : 1 ≤ s) (hs : s < 2 ^ n) (h2 : 1 ≤ t) (ht : t < 2 ^ n) (hn1 : 1 ≤ n) (hn : n ≤ 20) : parseM (formN s n ++ 44 :: formN t n) (n : Int) = (s ||| t, 0) := by
  have e1 := form_go h1 hs hn
  have e2 := form_go h2 ht hn
  have e : goP n (splitL (formN s n ++ 44 :: formN t n)) 0 = (s ||| t, 0) := by
    rw [split_app, goP_app _ _ _ _ (by rw [e1]), e1, go_acc _ _ _ (by rw [e2]), e2]
  have hne : s ||| t ≠ 0 := fun h => by
    have := Nat.left_le_or (n := s) (m := t)
    omega
  unfold parseM
  rw [if_pos ⟨by omega, by omega⟩, Int.toNat_natCast]
  unfold parseN
  rw [e, if_neg (by simp), if_neg hne]
theorem parse_word {n k : Nat} (hk : k < 5) (hn1 : 1 ≤ n) (hn : n ≤ 20) (h : nmM k n ≠ 0) : parseM (wordS k) (n : Int) = (nmM k n, 0) := by
  unfold parseM
  rw [if_pos ⟨by omega, by omega⟩, Int.toNat_natCast]
  unfold parseN
  rw [go_word hk, Nat.zero_or, if_neg (by simp), if_neg h]
/-- The bits of a list of weeks. -/
def bkW (l : List Nat) (acc : Nat) : Nat := l.foldl (fun acc w => acc ||| 2 ^ (w - 1)) acc
theorem bkW_snoc (l : List Nat) (w acc : Nat) : bkW (l ++ [w]) acc = bkW l acc ||| 2 ^ (w - 1) := by simp [bkW]
theorem bkW_weeks (s : Nat) : ∀ k, bkW (weeksP s k) 0 = s % 2 ^ k
  | 0 => by simp [weeksP, bkW, Nat.mod_one]
  | k + 1 => by
    have ih := bkW_weeks s k
    have hm : s % 2 ^ (k + 1) = s % 2 ^ k + 2 ^ k * (s / 2 ^ k % 2) := by rw [Nat.pow_succ, Nat.mod_mul]
    rw [hm]
    cases h : bitB s k with
    | true =>
      have h1 : s / 2 ^ k % 2 = 1 := of_decide_eq_true h
      rw [weeksP_yes h, bkW_snoc, ih, Nat.add_sub_cancel, or_top (Nat.mod_lt _ (Nat.two_pow_pos k)), h1, Nat.mul_one]
    | false =>
      have h1 := of_decide_eq_false h
      rw [weeksP_no h, ih, show s / 2 ^ k % 2 = 0 by omega]
      simp
theorem halves_table : ∀ n : Fin 21, 2 ≤ n.val → nmM 3 n.val ≠ 0 ∧ nmM 4 n.val ≠ 0 ∧ nmM 1 n.val ≠ 0 ∧ nmM 2 n.val ≠ 0 ∧ nmM 3 n.val &&& nmM 4 n.val = 0 ∧ nmM 3 n.val ||| nmM 4 n.val = 2 ^ n.val - 1 ∧ nmM 1 n.val &&& nmM 2 n.val = 0 ∧ nmM 1 n.val ||| nmM 2 n.val = 2 ^ n.val - 1 ∧
    (weeksP (nmM 3 n.val) 20).length = (weeksP (nmM 4 n.val) 20).length + n.val % 2 := by decide +kernel
end Go.Proofs.YtmmphjpakoimcaaDoor
