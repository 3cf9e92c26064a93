/-
  The text of a set: plain mathematics. No program, no conditions. What is written is read: plain mathematics. No program, no conditions. Grids and times of the .. Conditions: as stated.
-/
import Derived.Test.YtnpfmoalgphkcaaGreatDoorMM01
import Derived.Test.YtnpfmoalgphkcaaGreatDoorMM02
import Derived.Test.YtnpfmoalgphkcaaGreatDoorMM03
import Derived.Test.YtnpfmoalgphkcaaGreatDoorMM04
import Derived.Test.YtnpfmoalgphkcaaGreatDoorProg
import Derived.WalkKit
import Derived.WalkSpells
import Derived.WalkLawsBesides
import Derived.Lib.Hide
import Derived.Deep.QuietTactic
import Derived.BigQuiet
import Derived.Laws.Rows
import Derived.OwnWalk
import Derived.Lib.BufferWrite
import Derived.Lib.UnsafeStr
import Derived.Laws.IdiomStrings
import Derived.Laws.BytesArg
import Derived.Laws.BytesString
import Derived.Laws.OwnMore
import Derived.Lib.IndexLaws
import Derived.Lib.ItoaNum
import Derived.Lib.Atoi
import Derived.Laws.BitsAllLaws
import Derived.Laws.BitsLemmas
import Derived.Deep.MidRow
import Derived.Shelf.Strings.Builder1
import Derived.Shelf.Strings.Builder2
import Derived.Shelf.Strings.OnBuilder
import Derived.Shelf.Strings.BuilderF
import Derived.Shelf.Strings.BuilderK
import Derived.Shelf.Strings.Builder2Cap
import Derived.Shelf.Strconv.Atoi
import Derived.Shelf.Strconv.Itoa0
import Derived.Shelf.Strconv.Itoa1
import Derived.Shelf.LaysM
import Derived.Shelf.Strconv.Itoa2
import Derived.Shelf.Strconv.Itoa3
import Derived.Shelf.Strconv.AtoiErrFast
import Derived.Shelf.Strconv.ParseIntEmpty
import Derived.Shelf.Strconv.AtoiFail
import Derived.Shelf.Strconv.Clone
import Derived.Shelf.Strconv.SyntaxError
import Derived.Shelf.LaysC
import Derived.Shelf.Strconv.ToError
import Derived.Shelf.Strconv.AtoiErr
import Derived.Shelf.Strings.Search1
import Derived.Shelf.Strings.Search2
import Derived.Shelf.Strings.Search3
import Derived.Shelf.Strings.Cut
import Derived.Shelf.Strings.Shaped
import Derived.Shelf.Strings.Prefix
import Derived.Shelf.Unicode.DecodeSlow
import Derived.Shelf.Strings.BuilderCap
import Derived.Lib.AtoiErrMem
import Derived.Handy
import Derived.RangeFuncNested
import Derived.RangeFuncBound
import Derived.RangeFuncCalls
import Derived.RangeFuncLeaves
import Derived.Shelf.Abstract
import Derived.Shelf.RegionOpen
import Derived.OwnWalkIn
import Derived.TacticsInMore
import Derived.LoopNIn
import Derived.LoopIn
set_option linter.unusedVariables false
namespace Go.Proofs.YtnpfmoalgphkcaaGreatDoor
open Go Go.Lib
theorem dec_dec2 (u : Nat) (h : u < 100) : decDigits u = dec2 u := by
  unfold dec2
  by_cases hu : u < 10
  · rw [if_pos hu]
    exact Lib.decDigits_one hu
  · rw [if_neg hu, decDigits, dif_neg hu, Lib.decDigits_one (show u / 10 < 10 by omega)]
    rfl
def wF (s : Nat) : Nat → Nat → List Nat
  | _, 0 => []
  | i, k + 1 => if bitB s i = true then (i + 1) :: wF s (i + 1) k else wF s (i + 1) k
theorem wF_yes {s i k : Nat} (h : bitB s i = true) : wF s i (k + 1) = (i + 1) :: wF s (i + 1) k := if_pos h
theorem wF_no {s i k : Nat} (h : bitB s i = false) : wF s i (k + 1) = wF s (i + 1) k := if_neg (by rw [h]; simp)
theorem weeksP_wF (s : Nat) : ∀ k i, weeksP s i ++ wF s i k = weeksP s (i + k)
  | 0, i => by simp [wF]
  | k + 1, i => by
    have ih := weeksP_wF s k (i + 1)
    rw [show i + (k + 1) = i + 1 + k by omega, ← ih]
    cases h : bitB s i with
    | true => rw [wF_yes h, weeksP_yes h, List.append_assoc]; rfl
    | false => rw [wF_no h, weeksP_no h]
theorem wF_all (s n : Nat) : wF s 0 n = weeksP s n := by
  have := weeksP_wF s n 0
  rw [Nat.zero_add] at this
  exact this
theorem wF_gt (s : Nat) : ∀ k i x, x ∈ wF s i k → i < x
  | 0, i, x, h => by simp [wF] at h
  | k + 1, i, x, h => by
    cases hb : bitB s i with
    | true =>
      rw [wF_yes hb] at h
      rcases List.mem_cons.1 h with rfl | h
      · omega
      · have := wF_gt s k (i + 1) x h; omega
    | false =>
      rw [wF_no hb] at h
      have := wF_gt s k (i + 1) x h
      omega
def cB (s : Nat) : Nat → Nat → Nat
  | _, 0 => 0
  | i, k + 1 => if bitB s i = true then cB s (i + 1) k + 1 else 0
theorem cB_le (s : Nat) : ∀ k i, cB s i k ≤ k
  | 0, i => Nat.le_refl _
  | k + 1, i => by
    have := cB_le s k (i + 1)
    unfold cB
    split <;> omega
theorem cB_bit (s : Nat) : ∀ k i j, j < cB s i k → bitB s (i + j) = true
  | 0, i, j, h => by simp [cB] at h
  | k + 1, i, j, h => by
    unfold cB at h
    split at h
    · rename_i hb
      cases j with
      | zero => exact hb
      | succ j =>
        have := cB_bit s k (i + 1) j (by omega)
        rw [show i + (j + 1) = i + 1 + j by omega]
        exact this
    · omega
theorem cB_end (s : Nat) : ∀ k i, cB s i k < k → bitB s (i + cB s i k) = false
  | 0, i, h => by omega
  | k + 1, i, h => by
    unfold cB at h ⊢
    split at h
    · rename_i hb
      rw [if_pos hb]
      have := cB_end s k (i + 1) (by omega)
      rw [show i + (cB s (i + 1) k + 1) = i + 1 + cB s (i + 1) k by omega]
      exact this
    · rename_i hb
      rw [if_neg hb]
      simpa using hb
theorem cnt_wF (s : Nat) : ∀ k i, cnt i (wF s i k) = cB s i k
  | 0, i => rfl
  | k + 1, i => by
    cases hb : bitB s i with
    | true =>
      rw [wF_yes hb]
      unfold cnt cB
      rw [if_pos rfl, if_pos hb, cnt_wF s k (i + 1)]
    | false =>
      rw [wF_no hb]
      have e : cB s i (k + 1) = 0 := if_neg (by rw [hb]; simp)
      rw [e]
      cases hl : wF s (i + 1) k with
      | nil => rfl
      | cons x l =>
        have := wF_gt s k (i + 1) x (by rw [hl]; simp)
        unfold cnt
        rw [if_neg (by omega)]
theorem drop_wF (s : Nat) : ∀ k i c, c ≤ cB s i k → (wF s i k).drop c = wF s (i + c) (k - c)
  | k, i, 0, _ => by simp
  | 0, i, c + 1, h => by simp [cB] at h
  | k + 1, i, c + 1, h => by
    unfold cB at h
    split at h
    · rename_i hb
      rw [wF_yes hb, List.drop_succ_cons, drop_wF s k (i + 1) c (by omega)]
      congr 1 <;> omega
    · omega
theorem runs_nil : runs [] = [] := by rw [runs]
theorem runs_cons (a : Nat) (l : List Nat) : runs (a :: l) = (a, a + cnt a l) :: runs (l.drop (cnt a l)) := by rw [runs]
def itemsF (s i k : Nat) : List Str := (runs (wF s i k)).map fun r => itemT r.1 r.2
theorem items_no {s i k : Nat} (h : bitB s i = false) : itemsF s i (k + 1) = itemsF s (i + 1) k := by unfold itemsF; rw [wF_no h]
theorem items_yes {s i k : Nat} (h : bitB s i = true) : itemsF s i (k + 1) = itemT (i + 1) (i + 1 + cB s (i + 1) k) :: itemsF s (i + 1 + cB s (i + 1) k) (k - cB s (i + 1) k) := by
  unfold itemsF
  rw [wF_yes h, runs_cons, cnt_wF, drop_wF s k (i + 1) _ (Nat.le_refl _)]
  rfl
theorem textM_items {s n : Nat} (hs : s < 2 ^ n) (hn : n ≤ 20) : textM s = joinC (itemsF s 0 n) := by
  unfold textM itemsF
  rw [wF_all, show (20 : Nat) = n + (20 - n) by omega, weeksP_top hs]
theorem joinC_snoc : ∀ (l : List Str) (x : Str), l ≠ [] → joinC (l ++ [x]) = joinC l ++ 44 :: x
  | [], x, h => absurd rfl h
  | [a], x, _ => by simp [joinC]
  | a :: b :: l, x, _ => by
    have ih := joinC_snoc (b :: l) x (by simp)
    have e1 : joinC (a :: b :: l ++ [x]) = a ++ 44 :: joinC ((b :: l) ++ [x]) := rfl
    have e2 : joinC (a :: b :: l) = a ++ 44 :: joinC (b :: l) := rfl
    rw [e1, ih, e2]
    simp
theorem dec2_ne (u : Nat) : dec2 u ≠ [] := by unfold dec2; split <;> simp
theorem itemT_ne (a b : Nat) : itemT a b ≠ [] := by
  have := dec2_ne a
  unfold itemT
  split
  · exact this
  · simp [this]
theorem joinC_ne : ∀ (l : List Str), (∀ x ∈ l, x ≠ []) → l ≠ [] → joinC l ≠ []
  | [], _, h => absurd rfl h
  | [a], h, _ => h a (by simp)
  | a :: b :: l, h, _ => by simp [joinC, h a (by simp)]
theorem dec2_len (u : Nat) : (dec2 u).length ≤ 2 := by unfold dec2; split <;> simp
theorem itemT_len (a b : Nat) : (itemT a b).length ≤ 5 := by
  have h1 := dec2_len a
  have h2 := dec2_len b
  unfold itemT
  split <;> simp <;> omega
theorem joinC_len : ∀ (l : List Str), (∀ x ∈ l, x.length ≤ 5) → (joinC l).length ≤ 6 * l.length
  | [], _ => by simp [joinC]
  | [a], h => by have := h a (by simp); simp [joinC]; omega
  | a :: b :: l, h => by
    have := joinC_len (b :: l) (fun x hx => h x (List.mem_cons_of_mem _ hx))
    have h1 := h a (by simp)
    simp [joinC] at this ⊢
    omega
theorem joinC_lib : ∀ (l : List Str), Lib.join l [44] = joinC l
  | [] => rfl
  | [a] => by rw [Lib.join_one]; rfl
  | a :: b :: l => by
    have ih := joinC_lib (b :: l)
    have e : Lib.join (a :: b :: l) [44] = a ++ 44 :: Lib.join (b :: l) [44] := by
      unfold Lib.join
      simp [List.intercalate]
    rw [e, ih]
    rfl
theorem runs_len : ∀ (k : Nat) (l : List Nat), l.length ≤ k → (runs l).length ≤ l.length
  | 0, l, hl => by
    obtain rfl : l = [] := List.eq_nil_of_length_eq_zero (by omega)
    simp [runs_nil]
  | k + 1, [], hl => by simp [runs_nil]
  | k + 1, a :: l, hl => by
    rw [runs_cons]
    have := runs_len k (l.drop (cnt a l)) (by simp at hl ⊢; omega)
    simp at this ⊢
    omega
theorem split_one : ∀ (x : Str), has 44 x = false → splitL x = [x] := fun x h => by rw [splitL_has, if_neg (by rw [h]; simp)]
theorem split_app : ∀ (x y : Str), splitL (x ++ 44 :: y) = splitL x ++ splitL y
  | [], y => by simp [splitL]
  | c :: x, y => by
    have ih := split_app x y
    rw [List.cons_append]
    by_cases hc : c = 44
    · subst hc
      simp only [splitL, if_true, ih, List.cons_append]
    · simp only [splitL, if_neg hc, ih]
      have hne : splitL x ≠ [] := by
        cases x with
        | nil => simp [splitL]
        | cons c s => simp only [splitL]; split <;> simp
      obtain ⟨a, t, hat⟩ : ∃ a t, splitL x = a :: t := by cases hs : splitL x with | nil => exact absurd hs hne | cons a t => exact ⟨a, t, rfl⟩
      rw [hat]
      simp
theorem split_join : ∀ (l : List Str), l ≠ [] → (∀ x ∈ l, has 44 x = false) → splitL (joinC l) = l
  | [], h, _ => absurd rfl h
  | [x], _, h => split_one x (h x (by simp))
  | x :: y :: l, _, h => by
    have ih := split_join (y :: l) (by simp) (fun z hz => h z (List.mem_cons_of_mem _ hz))
    have e : joinC (x :: y :: l) = x ++ 44 :: joinC (y :: l) := rfl
    rw [e, split_app, ih, split_one x (h x (by simp))]
    rfl
theorem item_table : ∀ a b : Fin 21, 1 ≤ a.val → a.val ≤ b.val → kindOf (itemT a.val b.val) = none ∧ fromN (itemT a.val b.val) = a.val ∧ toN (itemT a.val b.val) = b.val ∧ has 44 (itemT a.val b.val) = false := by decide +kernel
theorem item_text {a b n : Nat} (h1 : 1 ≤ a) (h2 : a ≤ b) (h3 : b ≤ n) (h4 : n ≤ 20) : itemM (itemT a b) n = (spanN a b, 0) ∧ has 44 (itemT a b) = false := by
  obtain ⟨k1, k2, k3, k4⟩ := item_table ⟨a, by omega⟩ ⟨b, by omega⟩ h1 h2
  dsimp only at k1 k2 k3 k4
  refine ⟨?_, k4⟩
  unfold itemM
  rw [k1]
  show numM (itemT a b) n = _
  unfold numM
  rw [k2, k3, if_neg (by omega), if_neg (by omega)]
def orR (rs : List (Nat × Nat)) (acc : Nat) : Nat := rs.foldl (fun acc r => acc ||| spanN r.1 r.2) acc
theorem go_runs {n : Nat} (hn : n ≤ 20) : ∀ (rs : List (Nat × Nat)) (acc : Nat), (∀ r ∈ rs, 1 ≤ r.1 ∧ r.1 ≤ r.2 ∧ r.2 ≤ n) → goP n (rs.map fun r => itemT r.1 r.2) acc = (orR rs acc, 0)
  | [], acc, _ => rfl
  | r :: rs, acc, h => by
    obtain ⟨a, b, c⟩ := h r (by simp)
    have hi := (item_text a b c hn).1
    rw [List.map_cons, goP_ok (by rw [hi]), hi]
    exact go_runs hn rs _ (fun x hx => h x (List.mem_cons_of_mem _ hx))
theorem orR_bit : ∀ (rs : List (Nat × Nat)) (acc i : Nat), (∀ r ∈ rs, 1 ≤ r.1 ∧ r.1 ≤ r.2) → ((orR rs acc).testBit i = true ↔ acc.testBit i = true ∨ ∃ r ∈ rs, r.1 ≤ i + 1 ∧ i + 1 ≤ r.2)
  | [], acc, i, _ => by simp [orR]
  | r :: rs, acc, i, h => by
    obtain ⟨a, b⟩ := h r (by simp)
    have ih := orR_bit rs (acc ||| spanN r.1 r.2) i (fun x hx => h x (List.mem_cons_of_mem _ hx))
    show (orR rs (acc ||| spanN r.1 r.2)).testBit i = true ↔ _
    rw [ih, Nat.testBit_or, span_bit a (by omega)]
    simp only [Bool.or_eq_true, decide_eq_true_eq, List.mem_cons, exists_eq_or_imp]
    constructor
    · rintro ((h | ⟨h1, h2⟩) | h)
      · exact .inl h
      · exact .inr (.inl ⟨h1, by omega⟩)
      · exact .inr (.inr h)
    · rintro (h | ⟨h1, h2⟩ | h)
      · exact .inl (.inl h)
      · exact .inl (.inr ⟨h1, by omega⟩)
      · exact .inr h
theorem runs_ok {s n : Nat} (hs : s < 2 ^ n) (hn : n ≤ 20) : ∀ r ∈ runs (weeksP s 20), 1 ≤ r.1 ∧ r.1 ≤ r.2 ∧ r.2 ≤ n := fun r hr => by
  obtain ⟨h1, h2, h3⟩ := runs_mem _ _ (Nat.le_refl _) r hr
  have m1 := (mem_weeksP s 20 _).1 h1
  have m3 := (mem_weeksP s 20 _).1 h3
  refine ⟨m1.1, h2, ?_⟩
  rcases Nat.lt_or_ge n r.2 with h | h
  · have := bitB_top hs (show n ≤ r.2 - 1 by omega)
    rw [this] at m3
    simp at m3
  · exact h
theorem orR_runs {s n : Nat} (hs : s < 2 ^ n) (hn : n ≤ 20) : orR (runs (weeksP s 20)) 0 = s := by
  apply Nat.eq_of_testBit_eq
  intro i
  have h := orR_bit (runs (weeksP s 20)) 0 i (fun r hr => by have := runs_ok hs hn r hr; omega)
  rw [← mem_runs _ _ (Nat.le_refl _), mem_weeksP] at h
  rw [Bool.eq_iff_iff, h]
  simp only [Nat.zero_testBit, Bool.false_eq_true, false_or, Nat.add_sub_cancel, bitB_test]
  constructor
  · exact fun h => h.2.2
  · intro h
    refine ⟨by omega, ?_, h⟩
    rcases Nat.lt_or_ge i 20 with h' | h'
    · omega
    · have := bitB_top hs (show n ≤ i by omega)
      rw [bitB_test, h] at this
      simp at this
theorem word_split : ∀ k : Fin 5, has 44 (wordS k.val) = false ∧ kindOf (wordS k.val) = some k.val := by decide
theorem nameK_of {s n k : Nat} (h : nameK s n = some k) : k < 5 ∧ nmM k n = s := by
  unfold nameK at h
  have h1 := List.mem_of_find?_eq_some h
  have h2 := List.find?_some h
  exact ⟨List.mem_range.1 h1, of_decide_eq_true h2⟩
theorem go_word {n k : Nat} (hk : k < 5) (acc : Nat) : goP n (splitL (wordS k)) acc = (acc ||| nmM k n, 0) := by
  obtain ⟨h1, h2⟩ := word_split ⟨k, hk⟩
  dsimp only at h1 h2
  have hi : itemM (wordS k) n = (nmM k n, 0) := by unfold itemM; rw [h2]
  rw [split_one _ h1, goP_ok (by rw [hi]), hi]
  rfl
theorem form_go {s n : Nat} (h1 : 1 ≤ s) (hs : s < 2 ^ n) (hn : n ≤ 20) : goP n (splitL (formN s n)) 0 = (s, 0) := by
  unfold formN
  cases hk : nameK s n with
  | some k =>
    obtain ⟨h5, he⟩ := nameK_of hk
    show goP n (splitL (wordS k)) 0 = _
    rw [go_word h5, he, Nat.zero_or]
  | none =>
    show goP n (splitL (textM s)) 0 = _
    have hr := runs_ok hs hn
    have hne : runs (weeksP s 20) ≠ [] := fun e => by
      have := orR_runs hs hn
      rw [e] at this
      simp [orR] at this
      omega
    unfold textM
    rw [split_join _ (by simpa using hne) (fun x hx => by
      obtain ⟨r, hr', rfl⟩ := List.mem_map.1 hx
      obtain ⟨a, b, c⟩ := hr r hr'
      exact (item_text a b c hn).2), go_runs hn _ 0 hr, orR_runs hs hn]
theorem parse_form {s n : Nat} (h1 : 1 ≤ s) (hs : s < 2 ^ n) (hn1 : 1 ≤ n) (hn : n ≤ 20) : parseM (formN s n) (n : Int) = (s, 0) := by
  unfold parseM
  rw [if_pos ⟨by omega, by omega⟩, Int.toNat_natCast]
  unfold parseN
  rw [form_go h1 hs hn, if_neg (by simp), if_neg (by show ¬ s = 0; omega)]
theorem parse_word {n k : Nat} (hk : k < 5) (hn1 : 1 ≤ n) (hn : n ≤ 20) (h : nmM k n ≠ 0) : parseM (wordS k) (n : Int) = (nmM k n, 0) := by
  unfold parseM
  rw [if_pos ⟨by omega, by omega⟩, Int.toNat_natCast]
  unfold parseN
  rw [go_word hk, Nat.zero_or, if_neg (by simp), if_neg h]
def GridP (d s b m : Int) : Prop := (1 ≤ d ∧ d ≤ 7) ∧ (1 ≤ s ∧ s ≤ 24) ∧ (0 ≤ b ∧ b ≤ 1439) ∧ (5 ≤ m ∧ m ≤ 120) ∧ b + s * m ≤ 1440
instance (d s b m : Int) : Decidable (GridP d s b m) := by unfold GridP; infer_instance
def gridB (d s b m : Int) : Bool := decide (GridP d s b m)
def frameB (d s b m n : Int) : Bool := decide (gridB d s b m = true ∧ 1 ≤ n ∧ n ≤ 20)
def SoundP (k y t l : Int) : Prop := validM k 20 = true ∧ (0 ≤ y ∧ y ≤ 6) ∧ 0 ≤ t ∧ 1 ≤ l ∧ t + l ≤ 24
instance (k y t l : Int) : Decidable (SoundP k y t l) := by unfold SoundP; infer_instance
def soundB (k y t l : Int) : Bool := decide (SoundP k y t l)
def fitsM (d s b m n k y t l : Int) : Int :=
  if frameB d s b m n = true then (if soundB k y t l = true ∧ validM k n = true ∧ y < d ∧ t + l ≤ s then 0 else 14) else 1
def meetB (k y t l k' y' t' l' : Int) : Bool := decide (soundB k y t l = true ∧ soundB k' y' t' l' = true ∧ bits .and .i64 k k' ≠ 0 ∧ y = y')
def gapI (t l t' l' : Int) : Int := max (max t t' - min (t + l) (t' + l')) (-1)
def betM (k y t l k' y' t' l' : Int) : Int × Bool := if meetB k y t l k' y' t' l' = true then (gapI t l t' l', true) else (0, false)
def overB (k y t l k' y' t' l' : Int) : Bool := (betM k y t l k' y' t' l').2 && decide ((betM k y t l k' y' t' l').1 < 0)
def dayS : Nat → Str
  | 0 => [77, 111]
  | 1 => [84, 117]
  | 2 => [87, 101]
  | 3 => [84, 104]
  | 4 => [70, 114]
  | 5 => [83, 97]
  | _ => [83, 117]
def dayK (x : Str) : Option Nat := (List.range 7).find? fun k => decide (dayS k = x)
def wDay (x : Str) : Str := bef 32 x
def wSlots (x : Str) : Str := bef 32 (aft 32 x)
def wSet (x : Str) : Str := aft 32 (aft 32 x)
def wThree (x : Str) : Bool := has 32 (aft 32 x)
def wordsB (x : Str) : Bool := decide (wThree x = true → wSet x ≠ [] ∧ has 32 (wSet x) = false)
def weeksT (x : Str) (n : Nat) : Nat × Int := if wThree x = true then parseN (wSet x) n else (2 ^ n - 1, 0)
def readT (d s : Int) (n : Nat) (x : Str) (k : Nat) : (Int × Int × Int × Int) × Int :=
  if (k : Int) < d ∧ ¬ toN (wSlots x) < fromN (wSlots x) ∧ (toN (wSlots x) : Int) ≤ s then
    (if (weeksT x n).2 = 0 then ((((weeksT x n).1 : Nat), (k : Int), (fromN (wSlots x) : Int) - 1, (toN (wSlots x) : Int) - (fromN (wSlots x) : Int) + 1), 0) else ((0, 0, 0, 0), (weeksT x n).2))
  else ((0, 0, 0, 0), 14)
def bodyT (d s : Int) (n : Nat) (x : Str) : (Int × Int × Int × Int) × Int :=
  if wordsB x = true ∧ ¬ (fromN (wSlots x) = 0 ∨ toN (wSlots x) = 0) then (match dayK (wDay x) with | some k => readT d s n x k | none => ((0, 0, 0, 0), 4)) else ((0, 0, 0, 0), 4)
def timeM (d s b m n : Int) (x : Str) : (Int × Int × Int × Int) × Int := if frameB d s b m n = true then bodyT d s n.toNat x else ((0, 0, 0, 0), 1)
def timeT (n k y t l : Nat) : Str := dayS y ++ 32 :: itemT (t + 1) (t + l) ++ (if formN k n = [97, 108, 108] then [] else 32 :: formN k n)
def textT (d s b m n k y t l : Int) : Str × Int := if fitsM d s b m n k y t l = 0 then (timeT n.toNat k.toNat y.toNat t.toNat l.toNat, 0) else ([], fitsM d s b m n k y t l)
theorem grid_of {d s b m : Int} (h : gridB d s b m = true) : GridP d s b m := of_decide_eq_true h
theorem frame_of {d s b m n : Int} (h : frameB d s b m n = true) : GridP d s b m ∧ 1 ≤ n ∧ n ≤ 20 := by
  obtain ⟨h1, h2⟩ := of_decide_eq_true h
  exact ⟨grid_of h1, h2⟩
theorem sound_of {k y t l : Int} (h : soundB k y t l = true) : SoundP k y t l := of_decide_eq_true h
theorem dayK_some {x : Str} {k : Nat} (h : dayK x = some k) : k < 7 ∧ dayS k = x := by
  have h1 := List.find?_some h
  have h2 := List.mem_of_find?_eq_some h
  exact ⟨List.mem_range.1 h2, by simpa using h1⟩
theorem dayK_of {k : Nat} {x : Str} (hk : k < 7) (h : dayS k = x) : dayK x = some k := by
  subst h
  rcases (show k = 0 ∨ k = 1 ∨ k = 2 ∨ k = 3 ∨ k = 4 ∨ k = 5 ∨ k = 6 by omega) with rfl | rfl | rfl | rfl | rfl | rfl | rfl <;> decide
theorem dayK_none {x : Str} (h : ∀ i, i < 7 → dayS i ≠ x) : dayK x = none := by
  unfold dayK
  rw [List.find?_eq_none]
  intro k hk
  simp only [decide_eq_true_eq]
  exact h k (List.mem_range.1 hk)
theorem day_sign : ∀ k : Fin 7, has 32 (dayS k.val) = false := by decide
theorem nm_all : ∀ n : Fin 21, nmM 0 n.val = 2 ^ n.val - 1 := by decide +kernel
theorem parse_all {n : Nat} (h1 : 1 ≤ n) (h2 : n ≤ 20) : parseN [97, 108, 108] n = (2 ^ n - 1, 0) := by
  have hp : 2 ^ 1 ≤ 2 ^ n := pow_le h1
  have h0 := nm_all ⟨n, by omega⟩
  dsimp only at h0
  have h := parse_word (k := 0) (n := n) (by omega) h1 h2 (by rw [h0]; omega)
  rw [h0] at h
  unfold parseM at h
  rw [if_pos (by omega), Int.toNat_natCast] at h
  exact h
theorem slots_none {x : Str} (h : has 32 x = false) : fromN (wSlots x) = 0 := by
  unfold wSlots
  rw [(bef_miss 32 x h).2]
  rfl
end Go.Proofs.YtnpfmoalgphkcaaGreatDoor
namespace Go.Proofs.YtnpfmoalgphkcaaGreatDoor
open Go Go.Proofs Go.RowKit Go.Lib
def dayCells : List Value := [.string (ba (dayS 0)), .string (ba (dayS 1)), .string (ba (dayS 2)), .string (ba (dayS 3)), .string (ba (dayS 4)), .string (ba (dayS 5)), .string (ba (dayS 6))]
def Days (w : World) : Prop := ∀ (j : Nat) (v : Value), dayCells[j]? = some v → w.cell? ⟨2, j, none⟩ = some v
theorem Days.below {w w' : World} (h : Days w) {B : Nat} (hb : Below B w w') (hB : 9 < B) : Days w' :=
  fun j v hj => (hb.cell (p := ⟨2, j, none⟩) (by show 2 < B; omega)).trans (h j v hj)
def DayEntry (AR : Array Value) : Prop := ∀ k, k < 7 → ∃ T : ByteArray, lst T = dayS k ∧ ∀ w, (Instr.index 112 (Value.agg AR) (Value.int IntKind.i64 (k : Int))).run Tryz.prog w = .ok (Value.string T) w
theorem day_idx : DayEntry dayCells.toArray := by
  intro k hk
  rcases (show k = 0 ∨ k = 1 ∨ k = 2 ∨ k = 3 ∨ k = 4 ∨ k = 5 ∨ k = 6 by omega) with rfl | rfl | rfl | rfl | rfl | rfl | rfl
  · exact ⟨ba (dayS 0), rfl, fun w => by kernel_rfl⟩
  · exact ⟨ba (dayS 1), rfl, fun w => by kernel_rfl⟩
  · exact ⟨ba (dayS 2), rfl, fun w => by kernel_rfl⟩
  · exact ⟨ba (dayS 3), rfl, fun w => by kernel_rfl⟩
  · exact ⟨ba (dayS 4), rfl, fun w => by kernel_rfl⟩
  · exact ⟨ba (dayS 5), rfl, fun w => by kernel_rfl⟩
  · exact ⟨ba (dayS 6), rfl, fun w => by kernel_rfl⟩
theorem load_days {w : World} (hT : Days w) : ∃ L : List Value, Hid (DayEntry L.toArray) ∧ w.rangeAt 2 0 L ∧ (Tryz.prog.info? 112).map (·.size) = some L.length :=
  ⟨dayCells, hid day_idx, fun j v h => by rw [Nat.zero_add]; exact hT j v h, by kernel_rfl⟩
def dayR (x : Str) : Nat × Bool := match dayK x with | some k => (k, true) | none => (0, false)
set_option maxHeartbeats 4000000 in
set_option maxRecDepth 100000 in
theorem dayOf_any (s : ByteArray) (w : World) (hT : Days w) :
    Calls Tryz.prog 109 #[.string s] w fun e w' => e = .returned (.tuple #[.int .i64 ((dayR (lst s)).1 : Nat), .bool (dayR (lst s)).2]) ∧ Below w.heap.size w w' := by
  obtain ⟨R, hR⟩ : ∃ R, dayR (lst s) = R := ⟨_, rfl⟩
  have HR := hid hR
  obtain ⟨L, hX, hL1, hL2⟩ := load_days hT
  have HL1 := hid hL1
  have HL2 := hid hL2
  clear hL1 hL2
  rw [hR]
  clear hR hT
  go_enter Tryz.func109, Tryz.ntmps109
  go_wp2_with (refine wpList_load_mid rfl 112 _ rfl 2 0 rfl L _ HL1.out Tryz.underlying112 rfl HL2.out ?_)
  generalize L.toArray = AR at hX ⊢
  clear HL1 HL2
  go_loopw [7] (fun iv wr => ∃ k : Nat, iv = .int .i64 (k : Int) ∧ k ≤ 7 ∧ Hid (∀ i, i < k → dayS i ≠ lst s) ∧ Hid (Below w.heap.size w wr)) (fun iv _ => 7 - (RowKit.intOf iv).toNat)
  case atStart => exact ⟨0, rfl, by omega, hid (fun i hi => absurd hi (by omega)), hid (Below.refl _ _)⟩
  case round =>
    obtain ⟨k, rfl, hk, hne, hB⟩ := hrel
    by_cases hlt : k < 7
    · have hltz : (k : Int) < 7 := by omega
      obtain ⟨T, hTw, hix⟩ := hX.out k hlt
      have HTW := hid hTw
      clear hTw
      by_cases hw : lst T = lst s
      · have hr : R = (k, true) := by
          rw [← HR.out]
          unfold dayR
          rw [dayK_of hlt (HTW.out.symm.trans hw)]
        subst hr
        have he := toListEq hw
        clear hw HR
        go_wp2
        go_ret2
        exact ⟨rfl, hB.out⟩
      · have hnx : Hid (∀ i, i < k + 1 → dayS i ≠ lst s) := hid (fun i hi => by
          rcases Nat.lt_or_ge i k with h | h
          · exact hne.out i h
          · obtain rfl : i = k := by omega
            exact fun e => hw (HTW.out.trans e))
        have he := toListNe hw
        clear hw
        go_wp2
        go_roundw
        case rel => exact ⟨k + 1, by go_num, by omega, hnx, hid hB.out⟩
        case measure => simp [RowKit.intOf]; omega
    · obtain rfl : k = 7 := by omega
      have hr : R = (0, false) := by
        rw [← HR.out]
        unfold dayR
        rw [dayK_none hne.out]
      subst hr
      go_wp2
      go_ret2
      exact ⟨rfl, hB.out⟩
theorem indexByte_has (c : UInt8) (s : Str) : decide (0 ≤ Lib.indexByte s c) = has c s := by
  rw [indexByte_bef]
  cases has c s with
  | true => rw [if_pos rfl]; exact decide_eq_true (by omega)
  | false => rw [if_neg (by simp)]; rfl
def setT (x : Str) : Str := if wThree x = true then wSet x else [97, 108, 108]
theorem words_set (x : Str) : wordsB x = decide (setT x ≠ [] ∧ has 32 (setT x) = false) := by
  unfold wordsB setT
  cases wThree x with
  | true => simp
  | false => simp; decide
theorem results_4 {fn : Func} {p q r u : Tmp} (h : fn.results = #[.tmp p, .tmp q, .tmp r, .tmp u]) (tmps : Array Value) (P : Program) (w : World) (va vb vc vd : Value)
    (ha : tmps.getD p undef = va) (hb : tmps.getD q undef = vb) (hc : tmps.getD r undef = vc) (hd : tmps.getD u undef = vd) : (results fn tmps).run P w = .ok (.tuple #[va, vb, vc, vd]) w := by
  rw [Array.getD_eq_getD_getElem?] at ha hb hc hd
  simp only [results, h]
  simp [ha, hb, hc, hd]
def WordsOut (x : Str) (w : World) (e : Ending) (w' : World) : Prop :=
  e = .returned (.tuple #[.string (ba (wDay x)), .string (ba (wSlots x)), .string (ba (setT x)), .bool (wordsB x)]) ∧ Below w.heap.size w w'
set_option maxHeartbeats 4000000 in
set_option maxRecDepth 100000 in
theorem cutWords_any (s : ByteArray) (hz : s.size ≤ 4611686018427387904) (w : World) : Calls Tryz.prog 108 #[.string s] w (WordsOut (lst s) w) := by
  have c1 := fun w => cut_any s 32 hz w
  have hRs := aft_small (s := s) 32 hz
  obtain ⟨A, hA⟩ : ∃ A, ba (bef 32 (lst s)) = A := ⟨_, rfl⟩
  obtain ⟨R, hR⟩ : ∃ R, ba (aft 32 (lst s)) = R := ⟨_, rfl⟩
  obtain ⟨two, h2⟩ : ∃ two, has 32 (lst s) = two := ⟨_, rfl⟩
  have lR : aft 32 (lst s) = lst R := by rw [← hR]; rfl
  rw [hR] at hRs
  have c2 := fun w => cut_any R 32 hRs w
  have hCs := aft_small (s := R) 32 hRs
  obtain ⟨S, hS⟩ : ∃ S, ba (bef 32 (lst R)) = S := ⟨_, rfl⟩
  obtain ⟨C, hC⟩ : ∃ C, ba (aft 32 (lst R)) = C := ⟨_, rfl⟩
  obtain ⟨three, h3⟩ : ∃ three, has 32 (lst R) = three := ⟨_, rfl⟩
  have lC : aft 32 (lst R) = lst C := by rw [← hC]; rfl
  unfold CutOut at c1 c2
  rw [hA, hR, h2] at c1
  rw [hS, hC, h3] at c2
  unfold WordsOut
  rw [words_set]
  unfold setT wDay wSlots wThree wSet
  rw [hA, lR, hS, h3, lC]
  have cK := fun w => Tryz.strings_Contains_one C 32 w
  have cK2 := fun w => Tryz.strings_Contains_one ⟨#[97, 108, 108]⟩ 32 w
  rw [show Lib.indexByte C.data.toList 32 = Lib.indexByte (lst C) 32 from rfl, indexByte_has] at cK
  rw [show decide (0 ≤ Lib.indexByte (⟨#[97, 108, 108]⟩ : ByteArray).data.toList 32) = false by decide] at cK2
  have C1 := hid c1
  have C2 := hid c2
  clear c1 c2 hRs hCs hA hR h2 lR hS hC h3 lC hz
  cases three with
  | false =>
    rw [if_neg (by simp), show decide (([97, 108, 108] : Str) ≠ [] ∧ has 32 [97, 108, 108] = false) = true by decide]
    go_enter Tryz.func108, Tryz.ntmps108
    go_wp2_with fail
    refine (C1.out _).mono ?_
    rintro e w1 ⟨rfl, q1, hq1⟩
    have HB1 : Hid (Below w.heap.size w w1) := hid (by rw [hq1]; exact below_drewN (Below.refl _ _) q1)
    clear hq1
    go_wp2_with fail
    refine (C2.out _).mono ?_
    rintro e w2 ⟨rfl, q2, hq2⟩
    have HB2 : Hid (Below w.heap.size w w2) := hid (by rw [hq2]; exact below_drewN HB1.out q2)
    clear hq2
    go_wp2_with fail
    refine (cK2 _).mono ?_
    rintro e w3 ⟨rfl, rfl⟩
    go_wp2
    refine bodyPost_ret (v := .tuple #[.string A, .string S, .string (ba [97, 108, 108]), .bool true]) (results_4 rfl _ _ _ _ _ _ _ rfl rfl rfl rfl) rfl ?_
    exact ⟨rfl, HB2.out⟩
  | true =>
    rw [if_pos rfl, ba_lst]
    by_cases h0 : 0 < C.size
    · obtain ⟨x1, x2, x3, x4⟩ := str_no h0
      rw [show decide (lst C ≠ [] ∧ has 32 (lst C) = false) = !(has 32 (lst C)) by
        have := lst_ne h0
        cases has 32 (lst C) <;> simp [this]]
      generalize has 32 (lst C) = H at cK ⊢
      clear h0
      go_enter Tryz.func108, Tryz.ntmps108
      go_wp2_with fail
      refine (C1.out _).mono ?_
      rintro e w1 ⟨rfl, q1, hq1⟩
      have HB1 : Hid (Below w.heap.size w w1) := hid (by rw [hq1]; exact below_drewN (Below.refl _ _) q1)
      clear hq1
      go_wp2_with fail
      refine (C2.out _).mono ?_
      rintro e w2 ⟨rfl, q2, hq2⟩
      have HB2 : Hid (Below w.heap.size w w2) := hid (by rw [hq2]; exact below_drewN HB1.out q2)
      clear hq2
      go_wp2_with fail
      refine (cK _).mono ?_
      rintro e w3 ⟨rfl, rfl⟩
      go_wp2
      refine bodyPost_ret (v := .tuple #[.string A, .string S, .string C, .bool (!H)]) (results_4 rfl _ _ _ _ _ _ _ rfl rfl rfl rfl) rfl ?_
      exact ⟨rfl, HB2.out⟩
    · obtain ⟨x1, x2, x3, x4⟩ := str_yes h0
      rw [decide_eq_false (fun h => h.1 (lst_nil h0))]
      clear h0
      go_enter Tryz.func108, Tryz.ntmps108
      go_wp2_with fail
      refine (C1.out _).mono ?_
      rintro e w1 ⟨rfl, q1, hq1⟩
      have HB1 : Hid (Below w.heap.size w w1) := hid (by rw [hq1]; exact below_drewN (Below.refl _ _) q1)
      clear hq1
      go_wp2_with fail
      refine (C2.out _).mono ?_
      rintro e w2 ⟨rfl, q2, hq2⟩
      have HB2 : Hid (Below w.heap.size w w2) := hid (by rw [hq2]; exact below_drewN HB1.out q2)
      clear hq2
      go_wp2
      refine bodyPost_ret (v := .tuple #[.string A, .string S, .string C, .bool false]) (results_4 rfl _ _ _ _ _ _ _ rfl rfl rfl rfl) rfl ?_
      exact ⟨rfl, HB2.out⟩
def Rounds {σ : Type} (n : Nat) (P : Program) (l : Nat) (Ok : σ → ByteArray → Prop) (nx : σ → ByteArray → σ) (J : σ → World → Prop) (Jx : World → Prop) : Prop :=
  ∀ s x W, J s W → Ok s x → YieldAt Fence.wide (n - 1) P l #[.string x] W fun e W' => (e = .returned (.bool true) ∧ J (nx s x) W') ∨ (e = .returned (.bool false) ∧ Jx W')
def IterAt {σ : Type} (n : Nat) (P : Program) (gf : Nat) (lb : Array Value) (B : Nat) (Ok : σ → ByteArray → Prop) (nx : σ → ByteArray → σ) (Fin : σ → Prop) (I : σ → World → Prop) (s0 : σ) : Prop :=
  ∀ (l : Nat) (J : σ → World → Prop) (Jx : World → Prop) (W : World), (∀ s W, J s W → I s W) →
    (∀ s s' W v, J s W → I s' (W.setCell ⟨B, 0, none⟩ v) → J s' (W.setCell ⟨B, 0, none⟩ v)) →
    Rounds n P l Ok nx J Jx → J s0 W →
    CallsIn Fence.wide n P gf (#[.func (.yield l) #[] #[]] ++ lb) W fun e W' => (∃ v, e = .returned v) ∧ ((∃ s, Fin s ∧ J s W') ∨ Jx W')
def bodyOut (B : Nat) (I' Ix : World → Prop) (W : World) : Exit → Act → World → Prop
  | .normal, _, W' => KeepsFrom B W W' ∧ I' W'
  | .ret, _, W' => KeepsFrom B W W' ∧ Ix W'
  | _, _, _ => False
set_option maxHeartbeats 1000000 in
theorem range_own {P : Program} {σ : Type} {g : Operand} {ps : Array Tmp} {assign body : Code} {Q : Exit → Act → World → Prop} {a : Act} {w : World} {n : Nat} (h1 : 1 ≤ n)
    {gf : Nat} {lb : Array Value} (hg : a.eval g = .func (.func gf) #[] lb) (eg : ∀ args w, (callFunc gf args).run P w = .ok (.enter gf args) w)
    (B : Nat) (hB : B < w.heap.size) (Ok : σ → ByteArray → Prop) (nx : σ → ByteArray → σ) (Fin : σ → Prop) (I : σ → World → Prop) (Ix : World → Prop) (s0 : σ)
    (hit : IterAt (n - 1) P gf lb B Ok nx Fin I s0) (hps : ps.size = 1)
    (hI : OwnFrom w.heap.size I) (hIx : OwnFrom w.heap.size (fun (_ : Unit) W => Ix W)) (h0 : I s0 w) (a₁ : ByteArray → Act)
    (hassign : ∀ (l : Nat) (x : ByteArray) (W : World) (K : Act → World → Prop), K (a₁ x) W →
      assign.wpIn (Fence.wide.inRound l) (n - 1 - 1) P (Exit.then K (fun _ _ _ => False)) { tmps := (ps.zip #[.string x]).foldl (fun t (p, v) => t.setIfInBounds p v) a.tmps, defers := [] } W)
    (hbody : ∀ (l : Nat) (s : σ) (x : ByteArray) (W : World), I s W → Ok s x → body.wpIn (Fence.wide.inRound l) (n - 1 - 1) P (bodyOut w.heap.size (I (nx s x)) Ix W) (a₁ x) W)
    (hdone : ∀ (D : Nat) (s : σ) (W : World), w.heap.size ≤ D → Fin s → I s W → W.heap[D]? = some (.deferred (some [])) → Q .normal { a with defers := { target := .collected D, args := #[] } :: a.defers } W)
    (hstop : ∀ (D : Nat) (W : World), w.heap.size ≤ D → Ix W → W.heap[D]? = some (.deferred (some [])) → Code.ret.wpIn Fence.wide n P Q { a with defers := { target := .collected D, args := #[] } :: a.defers } W) :
    (Code.rangeFunc g ps assign body).wpIn Fence.wide n P Q a w := by
  refine wpIn_rangeFunc fun fn hfn => ?_
  let L := w.heap.size + 1
  let rec_ : LoopState → Option Code → Loop := fun st pe => { state := st, pending := pe, fn, tmps := a.tmps, params := ps, assign, body, defers := w.heap.size }
  obtain ⟨rec, hrec⟩ : ∃ rec : LoopState → Option Code → Loop, rec = rec_ := ⟨_, rfl⟩
  obtain ⟨W1, hW1⟩ : ∃ W1, (w.alloc (.deferred (some []))).alloc (.loop (rec .ready none)) = W1 := ⟨_, rfl⟩
  have hL1 : W1.heap[w.heap.size + 1]? = some (.loop (rec .ready none)) := by
    rw [← hW1]; have := World.alloc_heap_new (w.alloc (.deferred (some []))) (.loop (rec .ready none)); rwa [World.size_alloc] at this
  have hD1 : W1.heap[w.heap.size]? = some (.deferred (some [])) := by
    rw [← hW1]; exact (Below.heap_alloc _ _ _ (by simp)).trans (World.alloc_heap_new w _)
  have hI1 : I s0 W1 := by rw [← hW1]; exact hI.alloc _ (hI.alloc _ h0)
  refine ⟨w.heap.size + 1, [{ target := .collected w.heap.size, args := #[] }], W1, { target := .fn (.func gf) lb, args := #[.func (.yield (w.heap.size + 1)) #[] #[]] }, W1, gf,
    #[.func (.yield (w.heap.size + 1)) #[] #[]] ++ lb, W1, ?_, ?_, ?_, ?_, fun _ => h1, ?_⟩
  · rw [← hW1, hrec]; exact run_enterLoop_outer _ _ _ _ _
  · simp only [resolve, hg]
    simp [go_sem]
  · intro _ _; trivial
  · simp [invoke, go_sem, eg]
  · refine (hit (w.heap.size + 1)
      (fun s W => I s W ∧ W.heap[w.heap.size + 1]? = some (.loop (rec .ready none)) ∧ W.heap[w.heap.size]? = some (.deferred (some [])))
      (fun W => Ix W ∧ W.heap[w.heap.size + 1]? = some (.loop (rec .done (some .ret))) ∧ W.heap[w.heap.size]? = some (.deferred (some [])))
      W1 (fun _ _ h => h.1)
      (fun s s' W v h h' => ⟨h', (Below.heap_setCell _ _ _ _ (by show w.heap.size + 1 ≠ B; omega)).trans h.2.1, (Below.heap_setCell _ _ _ _ (by show w.heap.size ≠ B; omega)).trans h.2.2⟩)
      ?_ ⟨hI1, hL1, hD1⟩).mono ?_
    · rintro s x W ⟨hi, hl, hk⟩ hok
      have hlt : w.heap.size + 1 < W.heap.size := (Array.getElem?_eq_some_iff.1 hl).1
      have hy := run_yield (P := P) (args := #[.string x]) hl (by rw [hrec]; exact hps.symm)
      rw [hrec] at hy
      refine ⟨fn, _, assign, body, hy, roundIn_of_wpIn trivial (hassign _ x W _ ⟨_, run_beginRound hl (by rw [hrec]), ?_⟩)⟩
      have hl2 : (W.putObj (w.heap.size + 1) (.loop { rec .ready none with state := .busy })).heap[w.heap.size + 1]? = some (.loop { rec .ready none with state := .busy }) := World.putObj_heap_same hlt
      have hk2 : (W.putObj (w.heap.size + 1) (.loop { rec .ready none with state := .busy })).heap[w.heap.size]? = some (.deferred (some [])) := (World.putObj_heap_other (by omega)).trans hk
      refine wpIn_mono (hbody _ s x _ (hI.putObj _ hi (by omega) hl rfl) hok) ?_
      rintro e a3 W3 hp
      cases e with
      | normal =>
        obtain ⟨hk3, hi3⟩ := hp
        have hl3 := hk3.same _ _ (by omega) hl2 rfl
        have hr := run_endRound (P := P) none hl3
        exact ⟨_, _, hr, .inl ⟨rfl, hI.putObj _ hi3 (by omega) hl3 rfl, by rw [World.putObj_heap_same (Array.getElem?_eq_some_iff.1 hl3).1, hrec]; rfl,
          (World.putObj_heap_other (by omega)).trans (hk3.same _ _ (Nat.le_refl _) hk2 rfl)⟩⟩
      | ret =>
        obtain ⟨hk3, hi3⟩ := hp
        have hl3 := hk3.same _ _ (by omega) hl2 rfl
        have hr := run_endRound (P := P) (some .ret) hl3
        exact ⟨_, _, hr, .inr ⟨rfl, hIx.putObj (s := ()) _ hi3 (by omega) hl3 rfl, by rw [World.putObj_heap_same (Array.getElem?_eq_some_iff.1 hl3).1, hrec]; rfl,
          (World.putObj_heap_other (by omega)).trans (hk3.same _ _ (Nat.le_refl _) hk2 rfl)⟩⟩
      | exit id => exact hp.elim
      | goto t => exact hp.elim
      | panic ch => exact hp.elim
      | outgrown => exact hp.elim
    · rintro e W2 ⟨⟨v, rfl⟩, (⟨s, hF, hi, hl, hk⟩ | ⟨hi, hl, hk⟩)⟩
      · exact ⟨none, _, by have := run_endLoop (P := P) hl (by rw [hrec]; simp [rec_]); rw [hrec] at this; exact this, hdone _ s _ (Nat.le_refl _) hF (hI.putObj _ hi (by omega) hl rfl) ((World.putObj_heap_other (by omega)).trans hk)⟩
      · exact ⟨some .ret, _, by have := run_endLoop (P := P) hl (by rw [hrec]; simp [rec_]); rw [hrec] at this; exact this, hstop _ _ (Nat.le_refl _) (hIx.putObj (s := ()) _ hi (by omega) hl rfl) ((World.putObj_heap_other (by omega)).trans hk)⟩
attribute [local go_sem] Oper.semAt_some
theorem splitL_ne (l : Str) : splitL l ≠ [] := by
  cases l with
  | nil => simp [splitL]
  | cons c s => simp only [splitL]; split <;> simp
theorem splitL_none : ∀ (l : Str), indexByte l 44 < 0 → splitL l = [l]
  | [], _ => rfl
  | c :: s, h => by
    unfold indexByte at h
    split at h
    · omega
    · rename_i hc
      have hge := indexByte_ge s 44
      have hs : indexByte s 44 < 0 := by
        split at h
        · rename_i he; have := beq_iff_eq.1 he; omega
        · omega
      simp only [splitL, splitL_none s hs]
      rw [if_neg (fun e => hc (beq_iff_eq.2 e))]
      rfl
theorem splitL_at : ∀ (l : Str) (i : Nat), indexByte l 44 = i → splitL l = l.take i :: splitL (l.drop (i + 1))
  | [], i, h => by simp [indexByte] at h
  | c :: s, i, h => by
    unfold indexByte at h
    split at h
    · rename_i hc
      obtain rfl : i = 0 := by omega
      simp [splitL, beq_iff_eq.1 hc]
    · rename_i hc
      have hge := indexByte_ge s 44
      split at h
      · omega
      · obtain ⟨j, rfl⟩ : ∃ j, i = j + 1 := ⟨i - 1, by
          rename_i he
          have : indexByte s 44 ≠ -1 := fun e => he (beq_iff_eq.2 e)
          omega⟩
        have ih := splitL_at s j (by omega)
        simp only [splitL, ih]
        rw [if_neg (fun e => hc (beq_iff_eq.2 e))]
        rfl
theorem index_lt (l : Str) (i : Nat) (h : indexByte l 44 = i) : i < l.length := by
  have := (indexByte_some h).1
  rcases Nat.lt_or_ge i l.length with h' | h'
  · exact h'
  · rw [List.getElem?_eq_none h'] at this; cases this
abbrev St := List Str × ByteArray
def cellLen (B : Nat) (w : World) : Nat := match w.cell? ⟨B, 0, none⟩ with | some (.string r) => r.size | _ => 0
theorem cellLen_of {B : Nat} {w : World} {r : ByteArray} (h : w.cell? ⟨B, 0, none⟩ = some (.string r)) : cellLen B w = r.size := by unfold cellLen; rw [h]
structure SplitVars (B : Nat) (r : ByteArray) (W : World) : Prop where
  s : W.cell? ⟨B, 0, none⟩ = some (.string r)
  fz : W.frozen? ⟨B, 0, none⟩ = false
  sep : W.cell? ⟨B + 1, 0, none⟩ = some (.string ⟨#[44]⟩)
  save : W.cell? ⟨B + 2, 0, none⟩ = some (.int .i64 0)
set_option maxHeartbeats 4000000 in
set_option maxRecDepth 100000 in
theorem split_iter (n : Nat) (B : Nat) (s : ByteArray) (hs : s.size ≤ 4611686018427387904) (I : St → World → Prop) (hc : ∀ st W, I st W → SplitVars B st.2 W)
    (hset : ∀ st r W, I st W → I (st.1, r) (W.setCell ⟨B, 0, none⟩ (.string r))) :
    IterAt n Tryz.prog 125 #[.pointer (some ⟨B + 1, 0, none⟩), .pointer (some ⟨B, 0, none⟩), .pointer (some ⟨B + 2, 0, none⟩)] B
      (fun st x => ∃ rest, splitL (lst s) = st.1 ++ lst x :: rest) (fun st x => (st.1 ++ [lst x], st.2)) (fun st => st.1 = splitL (lst s)) I ([], s) := by
  intro l J Jx W hJI hJs hY h0
  refine callsIn_of_wp Tryz.func125 rfl trivial ?_ rfl
  simp only [Tryz.ntmps125, List.size_toArray, List.length_cons, List.length_nil, Nat.reduceAdd, Nat.reduceSub, Array.replicate_succ, Array.replicate_zero, List.push_toArray, List.append_toArray, List.nil_append, List.cons_append]
  obtain ⟨c1, c2, c3, c4⟩ := hc _ _ (hJI _ _ h0)
  gi_wp2
  gi_loopw [] (fun wr => ∃ (pre : List Str) (r : ByteArray), splitL (lst s) = pre ++ splitL (lst r) ∧ r.size ≤ s.size ∧ J (pre, r) wr) (fun wr => cellLen B wr)
  case atStart => exact ⟨[], s, rfl, Nat.le_refl _, h0⟩
  case round =>
    obtain ⟨pre, r, hsp, hrs, hJ⟩ := hrel
    obtain ⟨d1, d2, d3, d4⟩ := hc _ _ (hJI _ _ hJ)
    have hmu := cellLen_of d1
    have cI := Tryz.strings_Index_one r 44 wr
    have hge := indexByte_ge r.data.toList 44
    by_cases hneg : indexByte r.data.toList 44 < 0
    · obtain ⟨fn, tmps, assign, body, hy, hR⟩ := hY (pre, r) r wr hJ ⟨[], by rw [hsp, splitL_none _ hneg]⟩
      gi_wp2_with fail
      refine ⟨trivial, fun h => (by cases h), ?_⟩
      refine (callsIn_wide.2 cI).mono ?_
      rintro e w' ⟨rfl, rfl⟩
      gi_wp2
      refine ⟨fun h => (by cases h), ?_⟩
      refine hR.mono ?_
      rintro e W3 (⟨rfl, hJ3⟩ | ⟨rfl, hJ3⟩)
      · gi_wp2
        go_end0
        exact ⟨⟨_, rfl⟩, .inl ⟨_, by rw [hsp, splitL_none _ hneg], hJ3⟩⟩
      · gi_wp2
        go_end0
        exact ⟨⟨_, rfl⟩, .inr hJ3⟩
    · obtain ⟨i, hi⟩ : ∃ i : Nat, indexByte r.data.toList 44 = i := ⟨(indexByte r.data.toList 44).toNat, by omega⟩
      have hil : i < r.size := by rw [Lib.size_eq]; exact index_lt _ _ hi
      have hsa := splitL_at (lst r) i hi
      rw [hi] at cI
      clear hneg hge
      obtain ⟨fn, tmps, assign, body, hy, hR⟩ := hY (pre, r) (r.extract 0 i) wr hJ ⟨_, by rw [hsp, hsa, lst_extract]; rfl⟩
      gi_wp2_with fail
      refine ⟨trivial, fun h => (by cases h), ?_⟩
      refine (callsIn_wide.2 cI).mono ?_
      rintro e w' ⟨rfl, rfl⟩
      gi_wp2
      refine ⟨fun h => (by cases h), ?_⟩
      refine hR.mono ?_
      rintro e W3 (⟨rfl, hJ3⟩ | ⟨rfl, hJ3⟩)
      · obtain ⟨e1, e2, e3, e4⟩ := hc _ _ (hJI _ _ hJ3)
        dsimp only at e1
        gi_wp2
        obtain ⟨R, hR2⟩ : ∃ R : ByteArray, r.extract (i + 1) r.size = R := ⟨_, rfl⟩
        have hlR : lst R = (lst r).drop (i + 1) := by rw [← hR2, lst_extract, List.take_of_length_le (by rw [← Lib.size_eq]; exact Nat.le_refl _)]
        have hRs : R.size < r.size := by rw [← hR2, ByteArray.size_extract]; omega
        rw [hR2, hmu]
        have hset2 := hset _ R _ (hJI _ _ hJ3)
        refine ⟨⟨pre ++ [lst (r.extract 0 i)], R, ?_, by omega, hJs _ _ _ _ hJ3 hset2⟩, ?_⟩
        · rw [hsp, hsa, lst_extract, hlR]
          simp
        · rw [cellLen_of (hc _ _ hset2).s]
          exact hRs
      · gi_wp2
        refine bodyPost_ret (results_none rfl _ _ _) rfl ?_
        exact ⟨⟨_, rfl⟩, .inr hJ3⟩
end Go.Proofs.YtnpfmoalgphkcaaGreatDoor
