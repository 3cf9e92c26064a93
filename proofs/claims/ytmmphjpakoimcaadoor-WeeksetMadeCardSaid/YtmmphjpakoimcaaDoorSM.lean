/-
  Sets of weeks: plain mathematics. No program, no conditions.
-/
import Derived.Test.YtmmphjpakoimcaaDoorBs
set_option linter.unusedVariables false
namespace Go.Proofs.YtmmphjpakoimcaaDoor
open Go Go.Lib

/-! ### bits -/
def bitB (s k : Nat) : Bool := decide (s / 2 ^ k % 2 = 1)
theorem bitB_test (s k : Nat) : bitB s k = s.testBit k := by unfold bitB; rw [Nat.testBit_eq_decide_div_mod_eq]
theorem bitB_top {s n k : Nat} (hs : s < 2 ^ n) (hk : n ≤ k) : bitB s k = false := by
  rw [bitB_test]
  exact Nat.testBit_lt_two_pow (Nat.lt_of_lt_of_le hs (Nat.pow_le_pow_right (by omega) hk))
/-- The weeks of a set among the first k. -/
def weeksP (s : Nat) : Nat → List Nat
  | 0 => []
  | k + 1 => if bitB s k = true then weeksP s k ++ [k + 1] else weeksP s k
theorem weeksP_yes {s k : Nat} (h : bitB s k = true) : weeksP s (k + 1) = weeksP s k ++ [k + 1] := if_pos h
theorem weeksP_no {s k : Nat} (h : bitB s k = false) : weeksP s (k + 1) = weeksP s k := if_neg (by rw [h]; simp)
theorem weeksP_top {s n : Nat} (hs : s < 2 ^ n) : ∀ j, weeksP s (n + j) = weeksP s n
  | 0 => rfl
  | j + 1 => by
    show weeksP s ((n + j) + 1) = _
    rw [weeksP_no (bitB_top hs (by omega)), weeksP_top hs j]
theorem weeksP_len (s : Nat) : ∀ k, (weeksP s k).length ≤ k
  | 0 => Nat.le_refl _
  | k + 1 => by
    have := weeksP_len s k
    unfold weeksP
    split
    · simp; omega
    · omega
theorem mem_weeksP (s : Nat) : ∀ k w, w ∈ weeksP s k ↔ 1 ≤ w ∧ w ≤ k ∧ bitB s (w - 1) = true
  | 0, w => by simp [weeksP]; omega
  | k + 1, w => by
    have ih := mem_weeksP s k w
    cases h : bitB s k with
    | true =>
      rw [weeksP_yes h, List.mem_append, ih]
      simp only [List.mem_singleton]
      constructor
      · rintro (⟨a, b, c⟩ | rfl)
        · exact ⟨a, by omega, c⟩
        · exact ⟨by omega, by omega, h⟩
      · rintro ⟨a, b, c⟩
        rcases Nat.lt_or_ge k w with hw | hw
        · exact .inr (by omega)
        · exact .inl ⟨a, hw, c⟩
    | false =>
      rw [weeksP_no h, ih]
      constructor
      · rintro ⟨a, b, c⟩
        exact ⟨a, by omega, c⟩
      · rintro ⟨a, b, c⟩
        refine ⟨a, ?_, c⟩
        rcases Nat.lt_or_ge k w with hw | hw
        · obtain rfl : w = k + 1 := by omega
          rw [Nat.add_sub_cancel, h] at c
          simp at c
        · exact hw
def castL (l : List Nat) : List Int := l.map fun (n : Nat) => (n : Int)
theorem castL_app (a b : List Nat) : castL (a ++ b) = castL a ++ castL b := by simp [castL]
theorem castL_len (a : List Nat) : (castL a).length = a.length := by simp [castL]
def setOk (S : Int) : Bool := decide (1 ≤ S ∧ S < 1048576)
/-- What Weeks hands back. -/
def weeksM (S : Int) : List Int := if setOk S = true then castL (weeksP S.toNat 20) else []

/-! ### named sets, spans -/
def inB (k n w : Nat) : Bool :=
  match k with
  | 0 => true
  | 1 => decide (w % 2 = 1)
  | 2 => decide (w % 2 = 0)
  | 3 => decide (w ≤ (n + 1) / 2)
  | _ => decide ((n + 1) / 2 < w)
def nmP (k n : Nat) : Nat → Nat
  | 0 => 0
  | w + 1 => if inB k n (w + 1) = true then nmP k n w + 2 ^ w else nmP k n w
def nmM (k n : Nat) : Nat := nmP k n n
theorem nmP_yes {k n w : Nat} (h : inB k n (w + 1) = true) : nmP k n (w + 1) = nmP k n w + 2 ^ w := if_pos h
theorem nmP_no {k n w : Nat} (h : inB k n (w + 1) = false) : nmP k n (w + 1) = nmP k n w := if_neg (by rw [h]; simp)
theorem nmP_lt (k n : Nat) : ∀ w, nmP k n w < 2 ^ w
  | 0 => by simp [nmP]
  | w + 1 => by
    have := nmP_lt k n w
    rw [Nat.pow_succ]
    unfold nmP
    split <;> omega
def spanN (a b : Nat) : Nat := 2 ^ b - 2 ^ (a - 1)
theorem pow_le {a b : Nat} (h : a ≤ b) : 2 ^ a ≤ 2 ^ b := Nat.pow_le_pow_right (by omega) h
theorem spanN_lt (a b : Nat) : spanN a b < 2 ^ b := by
  have := Nat.two_pow_pos (a - 1)
  have := Nat.two_pow_pos b
  unfold spanN
  omega
theorem or_top {a i : Nat} (h : a < 2 ^ i) : a ||| 2 ^ i = a + 2 ^ i := by
  have := Nat.two_pow_add_eq_or_of_lt h 1
  rw [Nat.mul_one] at this
  rw [Nat.or_comm, ← this, Nat.add_comm]
theorem span_bit {a b : Nat} (h1 : 1 ≤ a) (hab : a ≤ b + 1) (i : Nat) : (spanN a b).testBit i = decide (a ≤ i + 1 ∧ i < b) := by
  obtain ⟨c, rfl⟩ : ∃ c, a = c + 1 := ⟨a - 1, by omega⟩
  obtain ⟨d, rfl⟩ : ∃ d, b = c + d := ⟨b - c, by omega⟩
  have e : spanN (c + 1) (c + d) = 2 ^ c * (2 ^ d - 1) := by
    unfold spanN
    rw [Nat.add_sub_cancel, Nat.pow_add, Nat.mul_sub_one]
  rw [e, Nat.testBit_two_pow_mul, Nat.testBit_two_pow_sub_one]
  rw [← Bool.decide_and]
  apply decide_eq_decide.2
  omega

/-! ### items -/
def wordS : Nat → Str
  | 0 => [97, 108, 108]
  | 1 => [111, 100, 100]
  | 2 => [101, 118, 101, 110]
  | 3 => [102, 105, 114, 115, 116]
  | _ => [115, 101, 99, 111, 110, 100]
def kindOf (x : Str) : Option Nat := (List.range 5).find? fun k => decide (wordS k = x)
/-- A number of one or two digits; 0 for others. -/
def smallN : Str → Nat
  | [a] => if 49 ≤ a.toNat ∧ a.toNat ≤ 57 then a.toNat - 48 else 0
  | [a, b] => if (49 ≤ a.toNat ∧ a.toNat ≤ 57) ∧ 48 ≤ b.toNat ∧ b.toNat ≤ 57 then 10 * (a.toNat - 48) + (b.toNat - 48) else 0
  | _ => 0
theorem smallN_lt (s : Str) : smallN s < 100 := by
  unfold smallN
  split
  · split <;> omega
  · split <;> omega
  · omega
def fromN (x : Str) : Nat := smallN (bef 45 x)
def toN (x : Str) : Nat := if has 45 x = true then smallN (aft 45 x) else smallN (bef 45 x)
def numM (x : Str) (n : Nat) : Nat × Int :=
  if fromN x = 0 ∨ toN x = 0 then (0, 4) else if toN x < fromN x ∨ n < toN x then (0, 3) else (spanN (fromN x) (toN x), 0)
/-- What an item means, or its error. -/
def itemM (x : Str) (n : Nat) : Nat × Int :=
  match kindOf x with
  | some k => (nmM k n, 0)
  | none => numM x n
theorem item_lt (x : Str) (n : Nat) : (itemM x n).1 < 2 ^ n := by
  have hp := Nat.two_pow_pos n
  unfold itemM
  split
  · exact nmP_lt _ _ _
  · unfold numM
    split
    · exact hp
    · split
      · exact hp
      · rename_i h
        exact Nat.lt_of_lt_of_le (spanN_lt _ _) (pow_le (by omega))
/-- The parts between the commas. -/
def splitL : Str → List Str
  | [] => [[]]
  | c :: s => if c = 44 then [] :: splitL s else (c :: (splitL s).headD []) :: (splitL s).tail
/-- The union of the items behind those that have come, or the first error. -/
def goP (n : Nat) : List Str → Nat → Nat × Int
  | [], acc => (acc, 0)
  | x :: xs, acc => if (itemM x n).2 ≠ 0 then (0, (itemM x n).2) else goP n xs (acc ||| (itemM x n).1)
theorem goP_ok {n : Nat} {x : Str} (h : (itemM x n).2 = 0) (xs : List Str) (acc : Nat) : goP n (x :: xs) acc = goP n xs (acc ||| (itemM x n).1) := if_neg (by rw [h]; simp)
theorem goP_err {n : Nat} {x : Str} (h : (itemM x n).2 ≠ 0) (xs : List Str) (acc : Nat) : goP n (x :: xs) acc = (0, (itemM x n).2) := if_pos h
theorem goP_lt (n : Nat) : ∀ xs acc, acc < 2 ^ n → (goP n xs acc).1 < 2 ^ n
  | [], acc, h => h
  | x :: xs, acc, h => by
    by_cases hx : (itemM x n).2 = 0
    · rw [goP_ok hx]
      exact goP_lt n xs _ (Nat.or_lt_two_pow h (item_lt x n))
    · rw [goP_err hx]
      exact Nat.two_pow_pos n
theorem goP_app (n : Nat) : ∀ xs ys acc, (goP n xs acc).2 = 0 → goP n (xs ++ ys) acc = goP n ys (goP n xs acc).1
  | [], ys, acc, _ => rfl
  | x :: xs, ys, acc, h => by
    rw [List.cons_append]
    by_cases hx : (itemM x n).2 = 0
    · rw [goP_ok hx] at h ⊢
      rw [goP_ok hx]
      exact goP_app n xs ys _ h
    · rw [goP_err hx] at h
      exact absurd h hx
/-- What Parse hands back. -/
def parseN (s : Str) (n : Nat) : Nat × Int := if (goP n (splitL s) 0).2 ≠ 0 then (0, (goP n (splitL s) 0).2) else if (goP n (splitL s) 0).1 = 0 then (0, 16) else ((goP n (splitL s) 0).1, 0)
def parseM (s : Str) (N : Int) : Nat × Int := if 1 ≤ N ∧ N ≤ 20 then parseN s N.toNat else (0, 3)

/-! ### runs -/
/-- How many of a list go on from a number. -/
def cnt : Nat → List Nat → Nat
  | _, [] => 0
  | a, b :: l => if b = a + 1 then cnt b l + 1 else 0
theorem cnt_le : ∀ (l : List Nat) (a : Nat), cnt a l ≤ l.length
  | [], _ => Nat.le_refl _
  | b :: l, a => by
    have := cnt_le l b
    unfold cnt
    split
    · simp; omega
    · omega
theorem cnt_get : ∀ (l : List Nat) (a j : Nat), j < cnt a l → l[j]? = some (a + 1 + j)
  | [], _, j, h => by simp [cnt] at h
  | b :: l, a, j, h => by
    unfold cnt at h
    split at h
    · rename_i hb
      cases j with
      | zero => simp [hb]
      | succ j =>
        rw [List.getElem?_cons_succ, cnt_get l b j (by omega), hb]
        congr 1
        omega
    · omega
theorem cnt_end : ∀ (l : List Nat) (a : Nat), l[cnt a l]? ≠ some (a + 1 + cnt a l)
  | [], a => by simp [cnt]
  | b :: l, a => by
    unfold cnt
    split
    · rename_i hb
      rw [List.getElem?_cons_succ]
      have := cnt_end l b
      rw [show a + 1 + (cnt b l + 1) = b + 1 + cnt b l by omega]
      exact this
    · rename_i hb
      simp only [List.getElem?_cons_zero, Nat.add_zero, ne_eq, Option.some.injEq]
      exact hb
def runs : List Nat → List (Nat × Nat)
  | [] => []
  | a :: l => (a, a + cnt a l) :: runs (l.drop (cnt a l))
termination_by l => l.length
decreasing_by simp; omega
theorem mem_runs : ∀ (k : Nat) (l : List Nat), l.length ≤ k → ∀ x, x ∈ l ↔ ∃ r ∈ runs l, r.1 ≤ x ∧ x ≤ r.2
  | 0, l, hl, x => by
    obtain rfl : l = [] := List.eq_nil_of_length_eq_zero (by omega)
    simp [runs]
  | k + 1, [], hl, x => by simp [runs]
  | k + 1, a :: l, hl, x => by
    have ih := mem_runs k (l.drop (cnt a l)) (by simp at hl ⊢; omega) x
    have hsp : l = l.take (cnt a l) ++ l.drop (cnt a l) := (List.take_append_drop _ _).symm
    have hle := cnt_le l a
    rw [runs]
    simp only [List.mem_cons, exists_eq_or_imp]
    rw [← ih]
    have htk : x ∈ l.take (cnt a l) ↔ a + 1 ≤ x ∧ x ≤ a + cnt a l := by
      rw [List.mem_iff_getElem?]
      constructor
      · rintro ⟨j, hj⟩
        rw [List.getElem?_take] at hj
        split at hj
        · rename_i hjc
          rw [cnt_get l a j hjc] at hj
          injection hj with hj
          omega
        · simp at hj
      · rintro ⟨h1, h2⟩
        refine ⟨x - (a + 1), ?_⟩
        rw [List.getElem?_take, if_pos (by omega), cnt_get l a _ (by omega)]
        congr 1
        omega
    conv => lhs; rw [hsp]
    rw [List.mem_append, htk]
    constructor
    · rintro (rfl | ⟨h1, h2⟩ | h)
      · exact .inl ⟨by omega, by omega⟩
      · exact .inl ⟨by omega, by omega⟩
      · exact .inr h
    · rintro (⟨h1, h2⟩ | h)
      · rcases Nat.lt_or_ge a x with h | h
        · exact .inr (.inl ⟨by omega, h2⟩)
        · exact .inl (by omega)
      · exact .inr (.inr h)
theorem runs_mem : ∀ (k : Nat) (l : List Nat), l.length ≤ k → ∀ r ∈ runs l, r.1 ∈ l ∧ r.1 ≤ r.2 ∧ r.2 ∈ l
  | 0, l, hl, r, h => by
    obtain rfl : l = [] := List.eq_nil_of_length_eq_zero (by omega)
    simp [runs] at h
  | k + 1, [], hl, r, h => by simp [runs] at h
  | k + 1, a :: l, hl, r, h => by
    rw [runs] at h
    rcases List.mem_cons.1 h with rfl | h
    · refine ⟨by simp, by simp, ?_⟩
      rcases Nat.eq_zero_or_pos (cnt a l) with h0 | h0
      · rw [h0]; simp
      · refine List.mem_cons_of_mem _ (List.mem_iff_getElem?.2 ⟨cnt a l - 1, ?_⟩)
        rw [cnt_get l a _ (by omega)]
        congr 1
        show _ = a + cnt a l
        omega
    · obtain ⟨h1, h2, h3⟩ := runs_mem k (l.drop (cnt a l)) (by simp at hl ⊢; omega) r h
      exact ⟨List.mem_cons_of_mem _ (List.mem_of_mem_drop h1), h2, List.mem_cons_of_mem _ (List.mem_of_mem_drop h3)⟩
/-- A number below 100 in decimal. -/
def dec2 (u : Nat) : Str := if u < 10 then [UInt8.ofNat (48 + u)] else [UInt8.ofNat (48 + u / 10), UInt8.ofNat (48 + u % 10)]
def itemT (a b : Nat) : Str := if a = b then dec2 a else dec2 a ++ 45 :: dec2 b
def joinC : List Str → Str
  | [] => []
  | [x] => x
  | x :: y :: l => x ++ 44 :: joinC (y :: l)
def textM (s : Nat) : Str := joinC ((runs (weeksP s 20)).map fun r => itemT r.1 r.2)
def nameK (s n : Nat) : Option Nat := (List.range 5).find? fun k => decide (nmM k n = s)
def validM (S N : Int) : Bool := decide ((1 ≤ N ∧ N ≤ 20) ∧ 1 ≤ S ∧ S < 2 ^ N.toNat)
/-- What Format hands back. -/
def formN (s n : Nat) : Str := match nameK s n with | some k => wordS k | none => textM s
def formM (S N : Int) : Str × Int := if validM S N = true then (formN S.toNat N.toNat, 0) else ([], 1)
end Go.Proofs.YtmmphjpakoimcaaDoor
