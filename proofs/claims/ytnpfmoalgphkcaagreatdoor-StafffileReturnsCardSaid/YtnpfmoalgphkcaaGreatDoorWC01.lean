/-
  Strings as lists of bytes, cut at a byte; lists of strings in memory. No program beyond the types' facts, no conditions.
  Sets of weeks: plain mathematics. No program, no conditions.
  What is written is read: plain mathematics. No program, no conditions.
  Grids and times of the week: plain mathematics. No program, no conditions.
  A time is read as it was written: plain mathematics. No program; condition: the time fits.
  What List gives for a range of made codes (a letter and a number with a width). Mathematics alone. Conditions: as the lemmas state.
  What Join makes of a list of codes, and that List reads it again. Mathematics alone. Conditions: as the lemmas state.
  Whether two lists of strings are equal: the reference's SameStrings. Conditions: both lie in memory.
  What is kept while the dice give out numbers, and what a function hands back through a cell. Conditions: as the lemmas state.
  The walk of TimegridReturns: a made time is read as it was written. Conditions: the numbers lie in memory as a slice of ints; the variables hold what their text lays.
  The walk of Dice.Times: times as they are made. Conditions: dice in memory; a grid of at most 100 days and slots, at most 20 weeks.
  The walk of Dice.Staff: lecturers as they are made. Conditions: dice in memory, behind the table of people; a grid of at most 100 days and slots, at most 20 weeks.
-/
import Derived.Test.YtnpfmoalgphkcaaGreatDoorVA01
import Derived.Test.YtnpfmoalgphkcaaGreatDoorVA02
import Derived.Test.YtnpfmoalgphkcaaGreatDoorVA03
import Derived.Test.YtnpfmoalgphkcaaGreatDoorVA04
import Derived.Test.YtnpfmoalgphkcaaGreatDoorVA05
import Derived.Test.YtnpfmoalgphkcaaGreatDoorVA06
import Derived.Test.YtnpfmoalgphkcaaGreatDoorVA07
import Derived.Test.YtnpfmoalgphkcaaGreatDoorVA08
import Derived.Test.YtnpfmoalgphkcaaGreatDoorVA09
import Derived.Test.YtnpfmoalgphkcaaGreatDoorVA10
import Derived.Test.YtnpfmoalgphkcaaGreatDoorVA11
import Derived.Test.YtnpfmoalgphkcaaGreatDoorVA12
import Derived.Test.YtnpfmoalgphkcaaGreatDoorVA13
import Derived.Test.YtnpfmoalgphkcaaGreatDoorVA14
import Derived.Test.YtnpfmoalgphkcaaGreatDoorVA15
import Derived.Test.YtnpfmoalgphkcaaGreatDoorVA16
import Derived.Test.YtnpfmoalgphkcaaGreatDoorVA17
import Derived.Test.YtnpfmoalgphkcaaGreatDoorVA18
import Derived.Test.YtnpfmoalgphkcaaGreatDoorVA19
import Derived.Test.YtnpfmoalgphkcaaGreatDoorVA20
import Derived.Test.YtnpfmoalgphkcaaGreatDoorVA21
import Derived.Test.YtnpfmoalgphkcaaGreatDoorVA22
import Derived.Test.YtnpfmoalgphkcaaGreatDoorVA23
import Derived.Test.YtnpfmoalgphkcaaGreatDoorVA24
import Derived.Test.YtnpfmoalgphkcaaGreatDoorVA25
import Derived.Test.YtnpfmoalgphkcaaGreatDoorVA26
import Derived.Test.YtnpfmoalgphkcaaGreatDoorVA27
import Derived.Test.YtnpfmoalgphkcaaGreatDoorVA28
import Derived.Test.YtnpfmoalgphkcaaGreatDoorVA29
import Derived.Test.YtnpfmoalgphkcaaGreatDoorVA30
import Derived.Test.YtnpfmoalgphkcaaGreatDoorVA31
import Derived.Test.YtnpfmoalgphkcaaGreatDoorWA01
import Derived.Test.YtnpfmoalgphkcaaGreatDoorWA02
import Derived.Test.YtnpfmoalgphkcaaGreatDoorWA03
import Derived.Test.YtnpfmoalgphkcaaGreatDoorProg
import Derived.WalkKit
import Derived.WalkSpells
import Derived.WalkLawsBesides
import Derived.Lib.Hide
import Derived.Deep.QuietTactic
import Derived.BigQuiet
import Derived.Laws.Rows
import Derived.OwnWalk
import Derived.Lib.BufferWrite
import Derived.Lib.UnsafeStr
import Derived.Laws.IdiomStrings
import Derived.Laws.BytesArg
import Derived.Laws.BytesString
import Derived.Laws.OwnMore
import Derived.Lib.IndexLaws
import Derived.Lib.ItoaNum
import Derived.Lib.Atoi
import Derived.Laws.BitsAllLaws
import Derived.Laws.BitsLemmas
import Derived.Deep.MidRow
import Derived.Shelf.Strings.Builder1
import Derived.Shelf.Strings.Builder2
import Derived.Shelf.Strings.OnBuilder
import Derived.Shelf.Strings.BuilderF
import Derived.Shelf.Strings.BuilderK
import Derived.Shelf.Strings.Builder2Cap
import Derived.Shelf.Strconv.Atoi
import Derived.Shelf.Strconv.Itoa0
import Derived.Shelf.Strconv.Itoa1
import Derived.Shelf.LaysM
import Derived.Shelf.Strconv.Itoa2
import Derived.Shelf.Strconv.Itoa3
import Derived.Shelf.Strconv.AtoiErrFast
import Derived.Shelf.Strconv.ParseIntEmpty
import Derived.Shelf.Strconv.AtoiFail
import Derived.Shelf.Strconv.Clone
import Derived.Shelf.Strconv.SyntaxError
import Derived.Shelf.LaysC
import Derived.Shelf.Strconv.ToError
import Derived.Shelf.Strconv.AtoiErr
import Derived.Shelf.Strings.Search1
import Derived.Shelf.Strings.Search2
import Derived.Shelf.Strings.Search3
import Derived.Shelf.Strings.Cut
import Derived.Shelf.Strings.Shaped
import Derived.Shelf.Strings.Prefix
import Derived.Shelf.Unicode.DecodeSlow
import Derived.Shelf.Strings.BuilderCap
import Derived.Lib.AtoiErrMem
import Derived.Handy
import Derived.RangeFuncNested
import Derived.RangeFuncBound
import Derived.RangeFuncCalls
import Derived.RangeFuncLeaves
import Derived.Shelf.Abstract
import Derived.Shelf.RegionOpen
import Derived.OwnWalkIn
import Derived.Lib.Bytealg
import Derived.Lib.SlTrimSet
import Derived.Shelf.Strings.SlTrimAscii
import Derived.Laws.ResultCell
import Derived.RegionTactic
import Derived.Lib.Repeat
import Derived.Deep.RegionHeld3
import Derived.Lib.SlicesS
import Derived.TacticsInMore
import Derived.LoopNIn
import Derived.LoopIn
import Derived.Deep.RegionLaw
import Derived.Deep.DeepCutAuto
import Derived.Lib.Join
import Derived.Laws.Concat
import Derived.Maps.OwnSet
import Derived.Maps.Range
import Derived.Sort.EncStr
import Derived.IntWalk
import Derived.Maps.AppendAt
set_option linter.unusedVariables false
namespace Go.Proofs.YtnpfmoalgphkcaaGreatDoor
open Go Go.Proofs Go.RowKit Go.Lib

/-! ### cutting at a byte -/
theorem has_app (c : UInt8) : ∀ s t, has c (s ++ t) = (has c s || has c t)
  | [], t => by simp [has]
  | x :: s, t => by simp [has, has_app c s t, Bool.or_assoc]
end Go.Proofs.YtnpfmoalgphkcaaGreatDoor

set_option linter.unusedVariables false
namespace Go.Proofs.YtnpfmoalgphkcaaGreatDoor
open Go Go.Lib

/-! ### bits -/
/-! ### named sets, spans -/
theorem span_bit {a b : Nat} (h1 : 1 ≤ a) (hab : a ≤ b + 1) (i : Nat) : (spanN a b).testBit i = decide (a ≤ i + 1 ∧ i < b) := by
  obtain ⟨c, rfl⟩ : ∃ c, a = c + 1 := ⟨a - 1, by omega⟩
  obtain ⟨d, rfl⟩ : ∃ d, b = c + d := ⟨b - c, by omega⟩
  have e : spanN (c + 1) (c + d) = 2 ^ c * (2 ^ d - 1) := by
    unfold spanN
    rw [Nat.add_sub_cancel, Nat.pow_add, Nat.mul_sub_one]
  rw [e, Nat.testBit_two_pow_mul, Nat.testBit_two_pow_sub_one]
  rw [← Bool.decide_and]
  apply decide_eq_decide.2
  omega

/-! ### items -/
/-! ### runs -/
theorem mem_runs : ∀ (k : Nat) (l : List Nat), l.length ≤ k → ∀ x, x ∈ l ↔ ∃ r ∈ runs l, r.1 ≤ x ∧ x ≤ r.2
  | 0, l, hl, x => by
    obtain rfl : l = [] := List.eq_nil_of_length_eq_zero (by omega)
    simp [runs]
  | k + 1, [], hl, x => by simp [runs]
  | k + 1, a :: l, hl, x => by
    have ih := mem_runs k (l.drop (cnt a l)) (by simp at hl ⊢; omega) x
    have hsp : l = l.take (cnt a l) ++ l.drop (cnt a l) := (List.take_append_drop _ _).symm
    have hle := cnt_le l a
    rw [runs]
    simp only [List.mem_cons, exists_eq_or_imp]
    rw [← ih]
    have htk : x ∈ l.take (cnt a l) ↔ a + 1 ≤ x ∧ x ≤ a + cnt a l := by
      rw [List.mem_iff_getElem?]
      constructor
      · rintro ⟨j, hj⟩
        rw [List.getElem?_take] at hj
        split at hj
        · rename_i hjc
          rw [cnt_get l a j hjc] at hj
          injection hj with hj
          omega
        · simp at hj
      · rintro ⟨h1, h2⟩
        refine ⟨x - (a + 1), ?_⟩
        rw [List.getElem?_take, if_pos (by omega), cnt_get l a _ (by omega)]
        congr 1
        omega
    conv => lhs; rw [hsp]
    rw [List.mem_append, htk]
    constructor
    · rintro (rfl | ⟨h1, h2⟩ | h)
      · exact .inl ⟨by omega, by omega⟩
      · exact .inl ⟨by omega, by omega⟩
      · exact .inr h
    · rintro (⟨h1, h2⟩ | h)
      · rcases Nat.lt_or_ge a x with h | h
        · exact .inr (.inl ⟨by omega, h2⟩)
        · exact .inl (by omega)
      · exact .inr (.inr h)
theorem runs_mem : ∀ (k : Nat) (l : List Nat), l.length ≤ k → ∀ r ∈ runs l, r.1 ∈ l ∧ r.1 ≤ r.2 ∧ r.2 ∈ l
  | 0, l, hl, r, h => by
    obtain rfl : l = [] := List.eq_nil_of_length_eq_zero (by omega)
    simp [runs] at h
  | k + 1, [], hl, r, h => by simp [runs] at h
  | k + 1, a :: l, hl, r, h => by
    rw [runs] at h
    rcases List.mem_cons.1 h with rfl | h
    · refine ⟨by simp, by simp, ?_⟩
      rcases Nat.eq_zero_or_pos (cnt a l) with h0 | h0
      · rw [h0]; simp
      · refine List.mem_cons_of_mem _ (List.mem_iff_getElem?.2 ⟨cnt a l - 1, ?_⟩)
        rw [cnt_get l a _ (by omega)]
        congr 1
        show _ = a + cnt a l
        omega
    · obtain ⟨h1, h2, h3⟩ := runs_mem k (l.drop (cnt a l)) (by simp at hl ⊢; omega) r h
      exact ⟨List.mem_cons_of_mem _ (List.mem_of_mem_drop h1), h2, List.mem_cons_of_mem _ (List.mem_of_mem_drop h3)⟩
end Go.Proofs.YtnpfmoalgphkcaaGreatDoor

set_option linter.unusedVariables false
namespace Go.Proofs.YtnpfmoalgphkcaaGreatDoor
open Go Go.Lib

theorem split_app : ∀ (x y : Str), splitL (x ++ 44 :: y) = splitL x ++ splitL y
  | [], y => by simp [splitL]
  | c :: x, y => by
    have ih := split_app x y
    rw [List.cons_append]
    by_cases hc : c = 44
    · subst hc
      simp only [splitL, if_true, ih, List.cons_append]
    · simp only [splitL, if_neg hc, ih]
      have hne : splitL x ≠ [] := by
        cases x with
        | nil => simp [splitL]
        | cons c s => simp only [splitL]; split <;> simp
      obtain ⟨a, t, hat⟩ : ∃ a t, splitL x = a :: t := by cases hs : splitL x with | nil => exact absurd hs hne | cons a t => exact ⟨a, t, rfl⟩
      rw [hat]
      simp
theorem split_join : ∀ (l : List Str), l ≠ [] → (∀ x ∈ l, has 44 x = false) → splitL (joinC l) = l
  | [], h, _ => absurd rfl h
  | [x], _, h => split_one x (h x (by simp))
  | x :: y :: l, _, h => by
    have ih := split_join (y :: l) (by simp) (fun z hz => h z (List.mem_cons_of_mem _ hz))
    have e : joinC (x :: y :: l) = x ++ 44 :: joinC (y :: l) := rfl
    rw [e, split_app, ih, split_one x (h x (by simp))]
    rfl
theorem item_table : ∀ a b : Fin 21, 1 ≤ a.val → a.val ≤ b.val → kindOf (itemT a.val b.val) = none ∧ fromN (itemT a.val b.val) = a.val ∧ toN (itemT a.val b.val) = b.val ∧ has 44 (itemT a.val b.val) = false := by decide +kernel
theorem item_text {a b n : Nat} (h1 : 1 ≤ a) (h2 : a ≤ b) (h3 : b ≤ n) (h4 : n ≤ 20) : itemM (itemT a b) n = (spanN a b, 0) ∧ has 44 (itemT a b) = false := by
  obtain ⟨k1, k2, k3, k4⟩ := item_table ⟨a, by omega⟩ ⟨b, by omega⟩ h1 h2
  dsimp only at k1 k2 k3 k4
  refine ⟨?_, k4⟩
  unfold itemM
  rw [k1]
  show numM (itemT a b) n = _
  unfold numM
  rw [k2, k3, if_neg (by omega), if_neg (by omega)]
def orR (rs : List (Nat × Nat)) (acc : Nat) : Nat := rs.foldl (fun acc r => acc ||| spanN r.1 r.2) acc
theorem go_runs {n : Nat} (hn : n ≤ 20) : ∀ (rs : List (Nat × Nat)) (acc : Nat), (∀ r ∈ rs, 1 ≤ r.1 ∧ r.1 ≤ r.2 ∧ r.2 ≤ n) → goP n (rs.map fun r => itemT r.1 r.2) acc = (orR rs acc, 0)
  | [], acc, _ => rfl
  | r :: rs, acc, h => by
    obtain ⟨a, b, c⟩ := h r (by simp)
    have hi := (item_text a b c hn).1
    rw [List.map_cons, goP_ok (by rw [hi]), hi]
    exact go_runs hn rs _ (fun x hx => h x (List.mem_cons_of_mem _ hx))
theorem orR_bit : ∀ (rs : List (Nat × Nat)) (acc i : Nat), (∀ r ∈ rs, 1 ≤ r.1 ∧ r.1 ≤ r.2) → ((orR rs acc).testBit i = true ↔ acc.testBit i = true ∨ ∃ r ∈ rs, r.1 ≤ i + 1 ∧ i + 1 ≤ r.2)
  | [], acc, i, _ => by simp [orR]
  | r :: rs, acc, i, h => by
    obtain ⟨a, b⟩ := h r (by simp)
    have ih := orR_bit rs (acc ||| spanN r.1 r.2) i (fun x hx => h x (List.mem_cons_of_mem _ hx))
    show (orR rs (acc ||| spanN r.1 r.2)).testBit i = true ↔ _
    rw [ih, Nat.testBit_or, span_bit a (by omega)]
    simp only [Bool.or_eq_true, decide_eq_true_eq, List.mem_cons, exists_eq_or_imp]
    constructor
    · rintro ((h | ⟨h1, h2⟩) | h)
      · exact .inl h
      · exact .inr (.inl ⟨h1, by omega⟩)
      · exact .inr (.inr h)
    · rintro (h | ⟨h1, h2⟩ | h)
      · exact .inl (.inl h)
      · exact .inl (.inr ⟨h1, by omega⟩)
      · exact .inr h
theorem runs_ok {s n : Nat} (hs : s < 2 ^ n) (hn : n ≤ 20) : ∀ r ∈ runs (weeksP s 20), 1 ≤ r.1 ∧ r.1 ≤ r.2 ∧ r.2 ≤ n := fun r hr => by
  obtain ⟨h1, h2, h3⟩ := runs_mem _ _ (Nat.le_refl _) r hr
  have m1 := (mem_weeksP s 20 _).1 h1
  have m3 := (mem_weeksP s 20 _).1 h3
  refine ⟨m1.1, h2, ?_⟩
  rcases Nat.lt_or_ge n r.2 with h | h
  · have := bitB_top hs (show n ≤ r.2 - 1 by omega)
    rw [this] at m3
    simp at m3
  · exact h
theorem orR_runs {s n : Nat} (hs : s < 2 ^ n) (hn : n ≤ 20) : orR (runs (weeksP s 20)) 0 = s := by
  apply Nat.eq_of_testBit_eq
  intro i
  have h := orR_bit (runs (weeksP s 20)) 0 i (fun r hr => by have := runs_ok hs hn r hr; omega)
  rw [← mem_runs _ _ (Nat.le_refl _), mem_weeksP] at h
  rw [Bool.eq_iff_iff, h]
  simp only [Nat.zero_testBit, Bool.false_eq_true, false_or, Nat.add_sub_cancel, bitB_test]
  constructor
  · exact fun h => h.2.2
  · intro h
    refine ⟨by omega, ?_, h⟩
    rcases Nat.lt_or_ge i 20 with h' | h'
    · omega
    · have := bitB_top hs (show n ≤ i by omega)
      rw [bitB_test, h] at this
      simp at this
theorem nameK_of {s n k : Nat} (h : nameK s n = some k) : k < 5 ∧ nmM k n = s := by
  unfold nameK at h
  have h1 := List.mem_of_find?_eq_some h
  have h2 := List.find?_some h
  exact ⟨List.mem_range.1 h1, of_decide_eq_true h2⟩
/-- The text of a set means the set. -/
theorem form_go {s n : Nat} (h1 : 1 ≤ s) (hs : s < 2 ^ n) (hn : n ≤ 20) : goP n (splitL (formN s n)) 0 = (s, 0) := by
  unfold formN
  cases hk : nameK s n with
  | some k =>
    obtain ⟨h5, he⟩ := nameK_of hk
    show goP n (splitL (wordS k)) 0 = _
    rw [go_word h5, he, Nat.zero_or]
  | none =>
    show goP n (splitL (textM s)) 0 = _
    have hr := runs_ok hs hn
    have hne : runs (weeksP s 20) ≠ [] := fun e => by
      have := orR_runs hs hn
      rw [e] at this
      simp [orR] at this
      omega
    unfold textM
    rw [split_join _ (by simpa using hne) (fun x hx => by
      obtain ⟨r, hr', rfl⟩ := List.mem_map.1 hx
      obtain ⟨a, b, c⟩ := hr r hr'
      exact (item_text a b c hn).2), go_runs hn _ 0 hr, orR_runs hs hn]
theorem parse_form {s n : Nat} (h1 : 1 ≤ s) (hs : s < 2 ^ n) (hn1 : 1 ≤ n) (hn : n ≤ 20) : parseM (formN s n) (n : Int) = (s, 0) := by
  unfold parseM
  rw [if_pos ⟨by omega, by omega⟩, Int.toNat_natCast]
  unfold parseN
  rw [form_go h1 hs hn, if_neg (by simp), if_neg (by show ¬ s = 0; omega)]
end Go.Proofs.YtnpfmoalgphkcaaGreatDoor

set_option linter.unusedVariables false
namespace Go.Proofs.YtnpfmoalgphkcaaGreatDoor
open Go Go.Lib

/-! ### texts of times -/
/-! ### what is used of them -/
theorem day_sign : ∀ k : Fin 7, has 32 (dayS k.val) = false := by decide
end Go.Proofs.YtnpfmoalgphkcaaGreatDoor

set_option linter.unusedVariables false
namespace Go.Proofs.YtnpfmoalgphkcaaGreatDoor
open Go Go.Lib

theorem cutAt (c : UInt8) : ∀ (a r : Str), has c a = false → bef c (a ++ c :: r) = a ∧ aft c (a ++ c :: r) = r ∧ has c (a ++ c :: r) = true
  | [], r, _ => by simp [bef, aft, has]
  | x :: a, r, h => by
    simp [has] at h
    obtain ⟨h1, h2, h3⟩ := cutAt c a r h.2
    simp only [List.cons_append, bef, aft, has, if_neg h.1, h1, h2, h3]
    simp
theorem item24 : ∀ a b : Fin 25, 1 ≤ a.val → a.val ≤ b.val → fromN (itemT a.val b.val) = a.val ∧ toN (itemT a.val b.val) = b.val ∧ has 32 (itemT a.val b.val) = false := by decide +kernel
theorem join_space : ∀ (l : List Str), (∀ x ∈ l, has 32 x = false) → has 32 (joinC l) = false
  | [], _ => rfl
  | [x], h => h x (by simp)
  | x :: y :: l, h => by
    show has 32 (x ++ 44 :: joinC (y :: l)) = false
    rw [has_app, h x (by simp)]
    simp only [has]
    rw [join_space (y :: l) (fun z hz => h z (List.mem_cons_of_mem _ hz))]
    rfl
theorem word_space : ∀ k : Fin 5, has 32 (wordS k.val) = false := by decide
theorem form_space {s n : Nat} (hs : s < 2 ^ n) (hn : n ≤ 20) : has 32 (formN s n) = false := by
  unfold formN
  cases h : nameK s n with
  | some k => exact word_space ⟨k, (nameK_of h).1⟩
  | none =>
    refine join_space _ (fun x hx => ?_)
    obtain ⟨r, hr, rfl⟩ := List.mem_map.1 hx
    obtain ⟨h1, h2, h3⟩ := runs_ok hs hn r hr
    exact (item24 ⟨r.1, by omega⟩ ⟨r.2, by omega⟩ h1 h2).2.2
theorem parseN_form {s n : Nat} (h1 : 1 ≤ s) (hs : s < 2 ^ n) (hn1 : 1 ≤ n) (hn : n ≤ 20) : parseN (formN s n) n = (s, 0) := by
  have h := parse_form h1 hs hn1 hn
  unfold parseM at h
  rw [if_pos (by omega), Int.toNat_natCast] at h
  exact h
theorem parseN_nil (n : Nat) : parseN [] n = (0, 4) := by
  have h : goP n (splitL []) 0 = (0, 4) := by
    show goP n [[]] 0 = _
    have h0 : itemM [] n = (0, 4) := by
      unfold itemM
      rw [show kindOf [] = none by decide]
      rfl
    rw [goP_err (by rw [h0]; simp), h0]
  unfold parseN
  rw [h]
  rfl
theorem time_parts {n k y t l : Nat} (hy : y < 7) (hl : 1 ≤ l) (htl : t + l ≤ 24) (h1 : 1 ≤ k) (hk : k < 2 ^ n) (hn : n ≤ 20) :
    wDay (timeT n k y t l) = dayS y ∧ wSlots (timeT n k y t l) = itemT (t + 1) (t + l) ∧ has 32 (timeT n k y t l) = true ∧
    wThree (timeT n k y t l) = decide (formN k n ≠ [97, 108, 108]) ∧ (formN k n ≠ [97, 108, 108] → wSet (timeT n k y t l) = formN k n) := by
  have hi := (item24 ⟨t + 1, by omega⟩ ⟨t + l, by omega⟩ (by simp) (by simp; omega)).2.2
  dsimp only at hi
  have hd := day_sign ⟨y, hy⟩
  dsimp only at hd
  unfold wDay wSlots wThree wSet timeT
  by_cases hf : formN k n = [97, 108, 108]
  · rw [if_pos hf, List.append_nil]
    obtain ⟨a1, a2, a3⟩ := cutAt 32 (dayS y) (itemT (t + 1) (t + l)) hd
    rw [a1, a2, a3, hi]
    exact ⟨rfl, (bef_miss 32 _ hi).1, rfl, (decide_eq_false (fun h => h hf)).symm, fun h => absurd hf h⟩
  · rw [if_neg hf]
    rw [List.append_assoc, List.cons_append]
    obtain ⟨a1, a2, a3⟩ := cutAt 32 (dayS y) (itemT (t + 1) (t + l) ++ 32 :: formN k n) hd
    obtain ⟨b1, b2, b3⟩ := cutAt 32 (itemT (t + 1) (t + l)) (formN k n) hi
    rw [a1, a2, a3, b1, b2, b3]
    exact ⟨rfl, rfl, rfl, (decide_eq_true hf).symm, fun _ => rfl⟩
theorem time_read {d s b m : Int} {n k y t l : Nat} (hf : fitsM d s b m n k y t l = 0) : timeM d s b m n (timeT n k y t l) = (((k : Int), (y : Int), (t : Int), (l : Int)), 0) := by
  obtain ⟨f1, f2, f3, f4, f5⟩ := fits_of hf
  obtain ⟨g1, g2, g3⟩ := frame_of f1
  obtain ⟨s1, s2, s3, s4, s5⟩ := sound_of f2
  obtain ⟨v1, v2, v3, v4⟩ := valid_of' f3
  rw [Int.toNat_natCast] at v4
  have hn : n ≤ 20 := by omega
  obtain ⟨p1, p2, p3, p4, p5⟩ := time_parts (n := n) (k := k) (y := y) (t := t) (l := l) (by omega) (by omega) (by omega) v3 v4 hn
  have hi := item24 ⟨t + 1, by omega⟩ ⟨t + l, by omega⟩ (by simp) (by simp; omega)
  dsimp only at hi
  obtain ⟨i1, i2, i3⟩ := hi
  have hform := parseN_form v3 v4 (show 1 ≤ n by omega) hn
  have hW : weeksT (timeT n k y t l) n = (k, 0) := by
    unfold weeksT
    rw [p4]
    by_cases hfa : formN k n = [97, 108, 108]
    · rw [if_neg (by simp [hfa])]
      rw [hfa, parse_all (by omega) hn] at hform
      exact hform
    · rw [if_pos (decide_eq_true hfa), p5 hfa]
      exact hform
  have hwb : wordsB (timeT n k y t l) = true := by
    unfold wordsB
    rw [p4]
    refine decide_eq_true (fun h => ?_)
    have hfa := of_decide_eq_true h
    rw [p5 hfa]
    refine ⟨fun e => ?_, form_space v4 hn⟩
    rw [e, parseN_nil] at hform
    injection hform with h1 h2
    simp at h2
  unfold timeM
  rw [if_pos f1, Int.toNat_natCast]
  unfold bodyT
  rw [p1, p2, i1, i2, if_pos ⟨hwb, by omega⟩, dayK_of (show y < 7 by omega) rfl]
  show readT d s n _ y = _
  unfold readT
  rw [p2, i1, i2, hW, if_pos ⟨f4, by omega, by omega⟩, if_pos rfl]
  dsimp only
  congr 1
  refine Prod.ext rfl (Prod.ext rfl (Prod.ext ?_ ?_))
  · show ((t + 1 : Nat) : Int) - 1 = t
    omega
  · show ((t + l : Nat) : Int) - ((t + 1 : Nat) : Int) + 1 = l
    omega
end Go.Proofs.YtnpfmoalgphkcaaGreatDoor

set_option linter.unusedVariables false
namespace Go.Proofs.YtnpfmoalgphkcaaGreatDoor.S3
open Go Go.Proofs Go.RowKit Go.Lib

theorem splitL_one : ∀ (l : Str), 59 ∉ l → splitL l = [l]
  | [], _ => rfl
  | c :: s, h => by
    have ih := splitL_one s (fun hm => h (.tail _ hm))
    unfold splitL
    rw [if_neg (fun e => h (by rw [e]; exact .head _)), ih]
    rfl
end Go.Proofs.YtnpfmoalgphkcaaGreatDoor.S3

set_option linter.unusedVariables false
namespace Go.Proofs.YtnpfmoalgphkcaaGreatDoor.S3
open Go Go.Proofs Go.RowKit Go.Lib

theorem split_cons (rest : Str) : ∀ (p : Str), 59 ∉ p → splitL (p ++ 59 :: rest) = p :: splitL rest
  | [], _ => by
    show splitL (59 :: rest) = _
    conv => lhs; unfold splitL
    rw [if_pos rfl]
  | c :: p, h => by
    have ih := split_cons rest p (fun hm => h (.tail _ hm))
    show splitL (c :: (p ++ 59 :: rest)) = _
    conv => lhs; unfold splitL
    rw [if_neg (fun e => h (by rw [e]; exact .head _)), ih]
    rfl
theorem split_semi : ∀ (l : List Str), l ≠ [] → (∀ p ∈ l, 59 ∉ p) → splitL (semi l) = l
  | [], h, _ => absurd rfl h
  | [p], _, h => splitL_one p (h p (.head _))
  | p :: q :: r, _, h => by
    have ih := split_semi (q :: r) (by simp) (fun x hx => h x (.tail _ hx))
    show splitL (p ++ 59 :: semi (q :: r)) = _
    rw [split_cons _ _ (h p (.head _)), ih]
end Go.Proofs.YtnpfmoalgphkcaaGreatDoor.S3

set_option linter.unusedVariables false
namespace Go.Proofs.YtnpfmoalgphkcaaGreatDoor.S3
open Go Go.Proofs Go.RowKit Go.Lib

theorem drewN_heap (w : World) : ∀ (q b : Nat), (w.drewN q).heap[b]? = w.heap[b]?
  | 0, _ => rfl
  | q + 1, b => drewN_heap w q b
end Go.Proofs.YtnpfmoalgphkcaaGreatDoor.S3

set_option linter.unusedVariables false
namespace Go.Proofs.YtnpfmoalgphkcaaGreatDoor
open Go Go.Proofs Go.RowKit Go.Lib

section
variable {w0 w w' : World} {g c k k' : Nat} {A : Option Addr} {L : List Int}
end
theorem IntRow.rolled {B g : Nat} {a w : World} {v : Value} {l : List Int} (hr : IntRow a B v l) (h : Rolled g a w) (hg : g < B) : IntRow w B v l :=
  h.row hr (fun e => by have := World.ownsRow.lt hr g e; omega)
end Go.Proofs.YtnpfmoalgphkcaaGreatDoor

set_option linter.unusedVariables false
namespace Go.Proofs.YtnpfmoalgphkcaaGreatDoor
open Go Go.Proofs Go.RowKit Go.Lib

/-- A made grid is valid, a made time fits it. -/
theorem made_grid {d s b m : Int} (h : MadeG d s b m) : GridP d s b m := by
  obtain ⟨h1, h2, h3, h4⟩ := h
  have hm : s * m ≤ 8 * 60 := Int.mul_le_mul (by omega) (by omega) (by omega) (by omega)
  exact ⟨by omega, by omega, by omega, by omega, by omega⟩
theorem made_frame {d s b m : Int} {n : Nat} (h : MadeG d s b m) (h1 : 1 ≤ n) (h2 : n ≤ 20) : frameB d s b m n = true :=
  decide_eq_true ⟨decide_eq_true (made_grid h), by omega, by omega⟩
theorem mvalid {n : Nat} {k : Int} (h1 : 1 ≤ n) (h2 : n ≤ 20) (hk : 1 ≤ k) (hk2 : k < 2 ^ n) : validM k n = true := validM_yes h1 h2 hk hk2
theorem made_fits {d s b m k y t l : Int} {n : Nat} (h : MadeG d s b m) (h1 : 1 ≤ n) (h2 : n ≤ 20) (ht : MadeT d s n k y t l) : fitsM d s b m n k y t l = 0 := by
  unfold fitsM
  rw [if_pos (made_frame h h1 h2), if_pos ⟨made_sound h h1 h2 ht, mvalid h1 h2 ht.1.1 ht.1.2, ht.2.1.2, ht.2.2.2.2⟩]

end Go.Proofs.YtnpfmoalgphkcaaGreatDoor

set_option linter.unusedVariables false
namespace Go.Proofs.YtnpfmoalgphkcaaGreatDoor
open Go Go.Proofs Go.RowKit Go.Lib

/-- What stands while times are made. -/
structure TT (w0 : World) (g c : Nat) (A : Option Addr) (L : List Int) (d s b m : Int) (n : Nat) (ts : List TimeD) (v : Value) (w : World) : Prop where
  x : Cells4 24 w w0.heap.size d s b m
  e : ∃ k, DE w0 g c A L k w
  r : TimeRow w (w0.heap.size + 1) v ts
  g0 : g < w0.heap.size
  ok : ∀ t ∈ ts, MadeT d s n t.1 t.2.1 t.2.2.1 t.2.2.2
section
variable {w0 w w' : World} {g c : Nat} {A : Option Addr} {L : List Int} {d s b m : Int} {n : Nat} {ts : List TimeD} {v v' : Value}
theorem TT.played {k' : Nat} (h : TT w0 g c A L d s b m n ts v w) (he : DE w g c A L k' w') : TT w0 g c A L d s b m n ts v w' := by
  obtain ⟨k, h0⟩ := h.e
  have hg := h.g0
  exact ⟨h.x.played he.p (by omega), ⟨k', h0.trans he⟩, he.p.row h.r (fun k hk => by have h1 := World.ownsRow.lt h.r k hk; omega), hg, h.ok⟩
theorem TT.app {t : TimeD} (h : TT w0 g c A L d s b m n ts v w) (hg : w.grownBy w' v.ownBlock) (hr : TimeRow w' (w0.heap.size + 1) v' (ts ++ [t])) (ht : MadeT d s n t.1 t.2.1 t.2.2.1 t.2.2.2) : TT w0 g c A L d s b m n (ts ++ [t]) v' w' := by
  obtain ⟨k, h0⟩ := h.e
  have hl := h.x.lt
  have hb : Below (w0.heap.size + 1) w w' := (Below.refl _ w).grown hg (by omega) (fun k hk => (World.ownsRow.lt h.r k hk).1)
  refine ⟨(hb.block _ (by omega)).trans h.x, ⟨k, h0.below (hb.mono (by omega)) h.g0⟩, hr, h.g0, fun x hx => ?_⟩
  rcases List.mem_append.1 hx with hx | hx
  · exact h.ok x hx
  · rw [List.mem_singleton] at hx; subst hx; exact ht
end
theorem TT.first {w : World} {g c k : Nat} {A : Option Addr} {L : List Int} (h : DiceAt w g A L c k) (d s b m : Int) (n : Nat) :
    TT w g c A L d s b m n [] (.slice none 0 0) (w.alloc (.cells #[.int .i64 d, .int .i64 s, .int .i64 b, .int .i64 m] 24)) :=
  ⟨Cells4.new w d s b m _, ⟨k, (DE.first h).alloc _⟩, World.ownsRow_nil _ _ _ _, h.lt, fun t ht => by simp at ht⟩
/-- What Times hands back. -/
def TimesP (d s : Int) (n most : Nat) (g c : Nat) (A : Option Addr) (L : List Int) (w0 : World) (e : Ending) (w' : World) : Prop :=
  ∃ (ts : List TimeD) (v : Value) (k' : Nat), e = .returned v ∧ ts.length ≤ most ∧ (∀ t ∈ ts, MadeT d s n t.1 t.2.1 t.2.2.1 t.2.2.2) ∧ TimeRow w' w0.heap.size v ts ∧ DE w0 g c A L k' w'
set_option maxHeartbeats 16000000 in
set_option maxRecDepth 100000 in
theorem dtimes_any (g c k : Nat) (A : Option Addr) (L : List Int) (d s b m : Int) (n most : Nat) (h1 : 1 ≤ n) (h2 : n ≤ 20) (hd1 : 1 ≤ d) (hd2 : d ≤ 100) (hs1 : 1 ≤ s) (hs2 : s ≤ 100) (hm : most ≤ 100) (w : World) (h : DiceAt w g A L c k) :
    Calls Tryz.prog 53 #[.pointer (some ⟨g, 0, none⟩), .agg #[.int .i64 d, .int .i64 s, .int .i64 b, .int .i64 m], .int .i64 (n : Int), .int .i64 (most : Int)] w (TimesP d s n most g c A L w) := by
  obtain ⟨i9, hi9, hz9, hsi9, hby9⟩ := info_parts infoTime
  have H0 := hid (TT.first h d s b m n)
  have HT := hid (fun W k (h : DiceAt W g A L c k) => time_any g c k A L d s b m n h1 h2 hd1 hd2 hs1 hs2 W h)
  have HN := hid (fun (W : World) k q hq (h : DiceAt W g A L c k) => next_any g c k A L q hq W h)
  have qm : IntKind.i64.wrap ((most : Int) + 1) = (most : Int) + 1 := IntWalk.i64_in _ (by omega)
  clear h
  go_enter Tryz.func53, Tryz.ntmps53
  go_wp2_with fail
  generalize w.alloc (.cells #[.int .i64 d, .int .i64 s, .int .i64 b, .int .i64 m] 24) = w1 at H0 ⊢
  obtain ⟨k0, he0⟩ := H0.out.e
  refine (HN.out _ k0 ((most : Int) + 1) (by omega) he0.d).mono ?_
  rintro e w2 ⟨⟨r, rfl, hr⟩, ⟨k1, hd⟩, hR⟩
  obtain ⟨hr0, hr1⟩ := hr (by omega)
  obtain ⟨q0, rfl⟩ : ∃ q : Nat, r = (q : Int) := ⟨r.toNat, by omega⟩
  have HT2 := hid (H0.out.played ((DE.first he0.d).next hd hR))
  clear hr hd hR he0 H0 HN qm
  go_wp2
  go_loopw [9, 10] (fun v nv wr => ∃ (q : Nat) (ts : List TimeD) (Ar : Option Addr) (cr : Nat), v = .slice Ar ts.length cr ∧ nv = .int .i64 (q : Int) ∧ q + ts.length ≤ most ∧ Hid (TT w g c A L d s b m n ts (.slice Ar ts.length cr) wr)) (fun _ nv _ => (RowKit.intOf nv).toNat)
  case atStart => exact ⟨q0, [], none, 0, rfl, rfl, by simp; omega, HT2⟩
  case round =>
    obtain ⟨q, ts, Ar, cr, rfl, rfl, hq, hT⟩ := hrel
    by_cases hz : 0 < q
    · have hqz : (0 : Int) < (q : Int) := by omega
      have qm : IntKind.i64.wrap ((q : Int) - 1) = (q : Int) - 1 := IntWalk.i64_in _ (by omega)
      obtain ⟨g0, g1, g2, g3, _⟩ := hT.out.x.box
      obtain ⟨k2, he2⟩ := hT.out.e
      have cT := hid (HT.out _ _ he2.d)
      clear he2
      go_wp2_with fail
      refine cT.out.mono ?_
      rintro e w3 ⟨t1, t2, t3, t4, k3, rfl, hmt, he3⟩
      have HT3 := hid (hT.out.played he3)
      have HMT := hid hmt
      clear he3 hT cT g0 g1 g2 g3 hmt
      have HC3 : Hid (ts.length + 1 ≤ maxLen) := by unfold maxLen; exact hid (by omega)
      have HC4 : Hid ((ts.length + 1) * 32 ≤ 140737488355328) := hid (by omega)
      have HC5 : Hid (∀ o : Obj, w.heap.size + 1 ≤ (w3.alloc o).heap.size) := hid (fun o => by have := HT3.out.x.lt; simp; omega)
      have HR3 : Hid (∀ o : Obj, (w3.alloc o).ownsRow (w.heap.size + 1) 26 4 (.slice Ar ts.length cr) ts.length (timeVals ts)) := hid (fun o => World.ownsRow.alloc HT3.out.r o)
      go_wp2_with (at_builtin; refine wpList_append_own _ rfl _ _ 32 rfl (w.heap.size + 1) 26 i9 (.agg #[.int .i64 0, .int .i64 0, .int .i64 0, .int .i64 0]) 4 32 Tryz.underlying32 hi9 hz9 hsi9 hby9 rfl (by decide) _ ts.length (timeVals ts) rfl (HR3.out _) ⟨w3.heap.size, 0, none⟩ 1 1 (timeVs (t1, t2, t3, t4)) rfl rfl (four_new _ _ _ _ _ _) (times_one _) HC3.out HC4.out (HC5.out _) ?_)
      intro v' w4 hown' hgrow _
      have hg' := grownBy_of_alloc hgrow
      obtain ⟨A6, c6, rfl⟩ := S3.row_slice hown'
      have hrow6 : TimeRow w4 (w.heap.size + 1) (.slice A6 (ts.length + 1) c6) (ts ++ [(t1, t2, t3, t4)]) := by
        unfold TimeRow
        rw [timeVals_app, List.length_append]
        simpa [timeVals] using hown'
      have HT4 := hid (HT3.out.app hg' hrow6 HMT.out)
      clear hown' hgrow hg' hrow6 HT3 HC3 HC4 HC5 HR3
      go_wp2
      go_roundw
      case rel => exact ⟨q - 1, ts ++ [(t1, t2, t3, t4)], A6, c6, by simp, by congr 1; omega, by simp; omega, hid (by have := HT4.out; simpa using this)⟩
      case measure => simp [RowKit.intOf]; omega
    · have hqz : ¬ (0 : Int) < (q : Int) := by omega
      obtain ⟨k2, he2⟩ := hT.out.e
      have HR : Hid (TimesP d s n most g c A L w (.returned (.slice Ar ts.length cr)) wr) := hid ⟨ts, _, k2, rfl, by omega, hT.out.ok, TimeRow.mono hT.out.r (by omega), he2⟩
      clear he2 hT
      go_wp2
      go_ret
      exact HR.out
end Go.Proofs.YtnpfmoalgphkcaaGreatDoor

set_option linter.unusedVariables false
namespace Go.Proofs.YtnpfmoalgphkcaaGreatDoor
open Go Go.Proofs Go.RowKit Go.Lib

/-- append to a row of the call's own, as one step of a region that draws its order; the row stays or is new. -/
theorem step_append_own_at {P : Program} {ops : Array Oper} {o : Oper} {a : Act} {w : World} {K : Act → World → Prop} {Q : Exit → Act → World → Prop} {E : Prop}
    (hg : o.guard = none) (s x : Operand) (t : TypeId) (hop : o.op = Op.call { callee := Callee.builtin Builtin.append, args := #[s, x], argTypes := #[t, t] })
    (B : Nat) (e : TypeId) (i : TypeInfo) (z : Value) (size bytes : Nat) (h1 : P.underlying t = some (.slice e)) (h2 : P.info? e = some i) (h3 : i.zero = some z) (h4 : i.size = size) (h5 : i.bytes = bytes) (h6 : z.cells.size = size) (h7 : 0 < size)
    (v : Value) (n : Nat) (xs : List Value) (hs : a.eval s = v) (hown : w.ownsRow B e size v n xs)
    (ad : Addr) (m c : Nat) (news : List Value) (hx : a.eval x = .slice (some ad) m c) (hn : news.length = m * size) (hc : ∀ j u, news[j]? = some u → w.cell? (ad.add j) = some u) (h1c : ∀ u ∈ news, u.oneCell' = true)
    (b1 : n + m ≤ maxLen) (b2 : (n + m) * bytes ≤ 140737488355328) (hB : B ≤ w.heap.size)
    (hK : ∀ v' w', w'.ownsRow B e size v' (n + m) (xs ++ news) → w.grownBy w' v.ownBlock → (v'.ownBlock = v.ownBlock ∨ v'.ownBlock = some w.heap.size) → K (a.put o.dst v') w') :
    if Region.wanted o (yielded ops a.tmps) = true then Oper.wp P o a w K Q else E := by
  have hw : Region.wanted o (yielded ops a.tmps) = true := by simp [Region.wanted, hg]
  rw [if_pos hw]
  obtain ⟨v', w', hrun, r1, r2, _, r3⟩ := run_append_own_at (P := P) (w := w) B t o.type e i z size bytes h1 h2 h3 h4 h5 h6 h7 v n xs hown ad m c news hn hc h1c b1 b2 hB
  unfold Oper.wp
  simp [execOp, hop, resolve, invoke, builtin, hs, hx, hrun, Result.andThen]
  exact hK v' w' r1 r2 r3
theorem row_low {w : World} {e z n B B' : Nat} {v : Value} {xs : List Value} (h : w.ownsRow B e z v n xs) (hB : B' ≤ B) : w.ownsRow B' e z v n xs := by
  obtain ⟨h1, h2⟩ := h
  refine ⟨h1, ?_⟩
  rcases h2 with h2 | ⟨g, cap, cur, hv, hg, r⟩
  · exact .inl h2
  · exact .inr ⟨g, cap, cur, hv, Nat.le_trans hB hg, r⟩
def personS : Nat → Str
  | 0 => [97, 100, 97]
  | 1 => [98, 111, 98]
  | 2 => [99, 121]
  | _ => []
/-- The table of people. -/
structure PeopleAt (w : World) (PB po pc : Nat) : Prop where
  c0 : w.cell? ⟨0, 0, none⟩ = some (.slice (some ⟨PB, po, none⟩) 3 pc)
  cs : ∀ j, j < 3 → w.cell? ⟨PB, po + j, none⟩ = some (.string (ba (personS j)))
theorem PeopleAt.kept {w w' : World} {PB po pc : Nat} (h : PeopleAt w PB po pc) (h1 : w'.heap[0]? = w.heap[0]?) (h2 : w'.heap[PB]? = w.heap[PB]?) : PeopleAt w' PB po pc :=
  ⟨(World.cell?_of_block (w := w) h1).trans h.c0, fun j hj => (World.cell?_of_block (w := w) h2).trans (h.cs j hj)⟩
/-- Lecturers as they are made. -/
structure StaffOk (d s : Int) (n : Nat) (ls : List LectD) : Prop where
  len : ls.length ≤ 3
  at_ : ∀ (j : Nat) (x : LectD), ls[j]? = some x → x.1 = personS j ∧ x.2.length ≤ 2 ∧ ∀ t ∈ x.2, MadeT d s n t.1 t.2.1 t.2.2.1 t.2.2.2
theorem StaffOk.app {d s : Int} {n : Nat} {ls : List LectD} {x : LectD} (h : StaffOk d s n ls) (hl : ls.length < 3) (hx : x.1 = personS ls.length ∧ x.2.length ≤ 2 ∧ ∀ t ∈ x.2, MadeT d s n t.1 t.2.1 t.2.2.1 t.2.2.2) : StaffOk d s n (ls ++ [x]) := by
  refine ⟨by simp; omega, fun j y hj => ?_⟩
  rcases Nat.lt_trichotomy j ls.length with k | k | k
  · rw [List.getElem?_append_left k] at hj
    exact h.at_ j y hj
  · subst k
    rw [List.getElem?_append_right (Nat.le_refl _)] at hj
    simp at hj
    subst hj
    exact hx
  · rw [List.getElem?_append_right (by omega)] at hj
    rw [List.getElem?_eq_none (by simp; omega)] at hj
    simp at hj
/-- What stands while lecturers are made. -/
structure SS (w0 : World) (g c : Nat) (A : Option Addr) (L : List Int) (d s b m : Int) (n PB po pc : Nat) (ls : List LectD) (v : Value) (w : World) : Prop where
  x : Cells4 24 w w0.heap.size d s b m
  e : ∃ k, DE w0 g c A L k w
  row : ∃ Lr : List (LectD × LectA), Lr.map (·.1) = ls ∧ w.ownsRow (w0.heap.size + 1) 34 2 v Lr.length (lectVals Lr) ∧ ∀ p ∈ Lr, LectIn w (fun k => w0.heap.size + 1 ≤ k ∧ k < w.heap.size ∧ some k ≠ v.ownBlock) p.1 p.2
  p : PeopleAt w PB po pc
  g0 : g < w0.heap.size
  g1 : 0 < g
  g2 : PB < g
  ok : StaffOk d s n ls
section
variable {w0 w w' : World} {g c : Nat} {A : Option Addr} {L : List Int} {d s b m : Int} {n PB po pc : Nat} {ls : List LectD} {v v' : Value}
theorem SS.played {k' : Nat} (h : SS w0 g c A L d s b m n PB po pc ls v w) (he : DE w g c A L k' w') : SS w0 g c A L d s b m n PB po pc ls v w' := by
  obtain ⟨k, h0⟩ := h.e
  have hg := h.g0
  have hg1 := h.g1
  have hg2 := h.g2
  have hl := h.x.lt
  have hz := he.p.size
  obtain ⟨Lr, hL, ho, hr⟩ := h.row
  exact ⟨h.x.played he.p (by omega), ⟨k', h0.trans he⟩, ⟨Lr, hL, he.p.row ho (fun k hk => by have h1 := World.ownsRow.lt ho k hk; omega), fun q hq => ((hr q hq).kept (fun k hk => he.p.block k hk.2.1 (by omega))).mono (fun k hk => ⟨hk.1, by omega, hk.2.2⟩)⟩,
    h.p.kept (he.p.block _ (by omega) (by omega)) (he.p.block _ (by omega) (by omega)), hg, hg1, hg2, h.ok⟩
theorem SS.next (h : SS w0 g c A L d s b m n PB po pc ls v w) (k : Below w.heap.size w w') : SS w0 g c A L d s b m n PB po pc ls v w' := by
  obtain ⟨j, h0⟩ := h.e
  have hg := h.g0
  have hg1 := h.g1
  have hg2 := h.g2
  have hl := h.x.lt
  have hz := k.size
  obtain ⟨Lr, hL, ho, hr⟩ := h.row
  exact ⟨h.x.under k, ⟨j, h0.below (k.mono (by omega)) hg⟩, ⟨Lr, hL, row_under ho k, fun q hq => ((hr q hq).kept (fun i hi => k.block i hi.2.1)).mono (fun i hi => ⟨hi.1, by omega, hi.2.2⟩)⟩,
    h.p.kept (k.block _ (by omega)) (k.block _ (by omega)), hg, hg1, hg2, h.ok⟩
theorem SS.cells (h : SS w0 g c A L d s b m n PB po pc ls v w) {i : Nat} (hi : i < 3) :
    w.cell? ⟨0, 0, none⟩ = some (.slice (some ⟨PB, po, none⟩) 3 pc) ∧ w.cell? ⟨PB, po + i, none⟩ = some (.string (ba (personS i))) ∧ w.cell? ⟨w0.heap.size, 0, none⟩ = some (.int .i64 d) ∧ w.cell? ⟨w0.heap.size, 1, none⟩ = some (.int .i64 s) ∧ w.cell? ⟨w0.heap.size, 2, none⟩ = some (.int .i64 b) ∧ w.cell? ⟨w0.heap.size, 3, none⟩ = some (.int .i64 m) :=
  ⟨h.p.c0, h.p.cs i hi, h.x.box.c0, h.x.box.c1, h.x.box.c2, h.x.box.c3⟩
theorem SS.dice (h : SS w0 g c A L d s b m n PB po pc ls v w) : ∃ k, DiceAt w g A L c k := by
  obtain ⟨k, h0⟩ := h.e
  exact ⟨k, h0.d⟩
theorem SS.app {r : LectD} {q : LectA} {C : Nat} (h : SS w0 g c A L d s b m n PB po pc ls v w)
    (hr' : LectIn w (fun k => C ≤ k ∧ k < w.heap.size) r q) (hC : w0.heap.size + 1 ≤ C) (h1 : ∀ k, v.ownBlock = some k → k < C)
    {Lr : List (LectD × LectA)} (hL : Lr.map (·.1) = ls) (ho : w.ownsRow (w0.heap.size + 1) 34 2 v Lr.length (lectVals Lr)) (hr : ∀ p ∈ Lr, LectIn w (fun k => w0.heap.size + 1 ≤ k ∧ k < w.heap.size ∧ some k ≠ v.ownBlock) p.1 p.2)
    (hown : w'.ownsRow (w0.heap.size + 1) 34 2 v' (Lr.length + 1) (lectVals Lr ++ lectVs r q))
    (hg : w.grownBy w' v.ownBlock) (hat : v'.ownBlock = v.ownBlock ∨ v'.ownBlock = some w.heap.size) (hk : StaffOk d s n (ls ++ [r])) : SS w0 g c A L d s b m n PB po pc (ls ++ [r]) v' w' := by
  obtain ⟨j, h0⟩ := h.e
  have hg0 := h.g0
  have hg1 := h.g1
  have hg2 := h.g2
  have hl := h.x.lt
  have hs := hg.size
  have hb : Below (w0.heap.size + 1) w w' := (Below.refl _ w).grown hg (by omega) (fun k hk => (World.ownsRow.lt ho k hk).1)
  have hne : ∀ k, k < w.heap.size → some k ≠ v.ownBlock → some k ≠ v'.ownBlock := by
    intro k hk hne
    rcases hat with e | e
    · rw [e]; exact hne
    · rw [e]; intro e0; injection e0 with e0; omega
  refine ⟨(hb.block _ (by omega)).trans h.x, ⟨j, h0.below (hb.mono (by omega)) hg0⟩, ⟨Lr ++ [(r, q)], by rw [List.map_append, hL]; rfl, ?_, fun p hp' => ?_⟩, h.p.kept (hb.block _ (by omega)) (hb.block _ (by omega)), hg0, hg1, hg2, hk⟩
  · rw [lectVals_app, List.length_append, List.length_singleton]
    simpa [lectVals] using hown
  · rcases List.mem_append.1 hp' with hp' | hp'
    · exact ((hr p hp').kept (fun k hk => hg.block k hk.2.1 hk.2.2)).mono (fun k hk => ⟨hk.1, by omega, hne k hk.2.1 hk.2.2⟩)
    · rw [List.mem_singleton] at hp'
      subst hp'
      have k1 : ∀ k, C ≤ k → some k ≠ v.ownBlock := fun k hk e => by have := h1 k e.symm; omega
      exact (hr'.kept (fun k hk => hg.block k hk.2 (k1 k hk.1))).mono (fun k hk => ⟨by omega, by omega, hne k hk.2 (k1 k hk.1)⟩)
end
theorem SS.first {w : World} {g c k PB po pc : Nat} {A : Option Addr} {L : List Int} (h : DiceAt w g A L c k) (d s b m : Int) (n : Nat) (hp : PeopleAt w PB po pc) (h1 : 0 < g) (h2 : PB < g) :
    SS w g c A L d s b m n PB po pc [] (.slice none 0 0) (w.alloc (.cells #[.int .i64 d, .int .i64 s, .int .i64 b, .int .i64 m] 24)) := by
  have hl := h.lt
  exact ⟨Cells4.new w d s b m _, ⟨k, (DE.first h).alloc _⟩, ⟨[], rfl, World.ownsRow_nil _ _ _ _, fun p hp => by simp at hp⟩, hp.kept (heap_alloc_old w _ (by omega)) (heap_alloc_old w _ (by omega)), hl, h1, h2, ⟨by simp, fun j x hj => by simp at hj⟩⟩
theorem lect_cells (w : World) (v0 v1 : Value) : ∀ (j : Nat) (u : Value), [v0, v1][j]? = some u → (w.alloc (.cells #[v0, v1] 34)).cell? ((⟨w.heap.size, 0, none⟩ : Addr).add j) = some u := by
  intro j u h
  obtain ⟨k0, k1⟩ := (Box2.new w v0 v1).cells
  rw [Addr.add_lit]
  match j, h with
  | 0, h => exact k0.trans h
  | 1, h => exact k1.trans h
  | j + 2, h => simp at h
/-- What Staff hands back. -/
def StaffP (d s : Int) (n : Nat) (g c : Nat) (A : Option Addr) (L : List Int) (w0 : World) (e : Ending) (w' : World) : Prop :=
  ∃ (ls : List LectD) (v : Value) (k' : Nat), e = .returned v ∧ StaffOk d s n ls ∧ LectRow w' w0.heap.size (fun k => w0.heap.size ≤ k ∧ k < w'.heap.size) v ls ∧ DE w0 g c A L k' w'
set_option maxHeartbeats 16000000 in
set_option maxRecDepth 100000 in
theorem dstaff_any (g c k PB po pc : Nat) (A : Option Addr) (L : List Int) (d s b m : Int) (n : Nat) (h1 : 1 ≤ n) (h2 : n ≤ 20) (hd1 : 1 ≤ d) (hd2 : d ≤ 100) (hs1 : 1 ≤ s) (hs2 : s ≤ 100) (w : World) (h : DiceAt w g A L c k)
    (hp : PeopleAt w PB po pc) (hg1 : 0 < g) (hg2 : PB < g) :
    Calls Tryz.prog 24 #[.pointer (some ⟨g, 0, none⟩), .agg #[.int .i64 d, .int .i64 s, .int .i64 b, .int .i64 m], .int .i64 (n : Int)] w (StaffP d s n g c A L w) := by
  obtain ⟨i5, hi5, hz5, hsi5, hby5⟩ := info_parts infoLect
  have H0 := hid (SS.first h d s b m n hp hg1 hg2)
  have HT : Hid (∀ (W : World) (r : Nat), r ≤ 2 → (∃ k, DiceAt W g A L c k) → Calls Tryz.prog 53 #[.pointer (some ⟨g, 0, none⟩), .agg #[.int .i64 d, .int .i64 s, .int .i64 b, .int .i64 m], .int .i64 (n : Int), .int .i64 (r : Int)] W fun e w' =>
      ∃ (ts : List TimeD) (At : Option Addr) (ct : Nat), e = .returned (.slice At ts.length ct) ∧ (ts.length ≤ 2 ∧ (∀ t ∈ ts, MadeT d s n t.1 t.2.1 t.2.2.1 t.2.2.2)) ∧ (∀ X : Str, LectIn w' (fun k => W.heap.size ≤ k ∧ k < w'.heap.size) (X, ts) (At, ct)) ∧ ∃ k', DE W g c A L k' w') := hid (fun W r hr ⟨k, hd⟩ => by
    refine (dtimes_any g c k A L d s b m n r h1 h2 hd1 hd2 hs1 hs2 (by omega) W hd).mono ?_
    rintro e w' ⟨ts, v, k', rfl, hlen, hok, hrow, he⟩
    obtain ⟨At, ct, rfl, e1, e2, e3⟩ := TimeRow.timesIn hrow (fun t ht => by have := (hok t ht).2.2.1; omega)
    exact ⟨ts, At, ct, rfl, ⟨by omega, hok⟩, fun X => ⟨e3, e1, e2⟩, k', he⟩)
  have HN : Hid (∀ (W : World) (q : Int), 1 ≤ q → q ≤ 4294967296 → (∃ k, DiceAt W g A L c k) → Calls Tryz.prog 23 #[.pointer (some ⟨g, 0, none⟩), .int .i64 q] W fun e w' => ∃ r : Nat, e = .returned (.int .i64 (r : Int)) ∧ (r : Int) < q ∧ ∃ k', DE W g c A L k' w') := hid (fun W q hq hq2 ⟨k, hd⟩ => by
    refine (next_any g c k A L q hq2 W hd).mono ?_
    rintro e w' ⟨⟨r, rfl, hr⟩, ⟨k', hd'⟩, hR⟩
    obtain ⟨hr0, hr1⟩ := hr hq
    obtain ⟨q0, rfl⟩ : ∃ q : Nat, r = (q : Int) := ⟨r.toNat, by omega⟩
    exact ⟨q0, rfl, hr1, k', (DE.first hd).next hd' hR⟩)
  clear h hp
  go_enter Tryz.func24, Tryz.ntmps24
  go_wp2_with fail
  generalize w.alloc (.cells #[.int .i64 d, .int .i64 s, .int .i64 b, .int .i64 m] 24) = w1 at H0 ⊢
  refine (HN.out _ 4 (by omega) (by omega) H0.out.dice).mono ?_
  rintro e w2 ⟨q0, rfl, hq0, k1, he1⟩
  have HT2 := hid (H0.out.played he1)
  clear he1 H0
  go_wp2
  go_loopw [7, 8] (fun v nv wr => ∃ (q i : Nat) (ls : List LectD) (Ar : Option Addr) (cr : Nat), v = .slice Ar i cr ∧ nv = .int .i64 (q : Int) ∧ q + i ≤ 3 ∧ Hid (ls.length = i) ∧ Hid (SS w g c A L d s b m n PB po pc ls (.slice Ar i cr) wr)) (fun _ nv _ => (RowKit.intOf nv).toNat)
  case atStart => exact ⟨q0, 0, [], none, 0, rfl, rfl, by omega, hid rfl, HT2⟩
  case round =>
    obtain ⟨q, i, ls, Ar, cr, rfl, rfl, hq, hli, hS⟩ := hrel
    by_cases hz : 0 < q
    · have hqz : (0 : Int) < (q : Int) := by omega
      have qm : IntKind.i64.wrap ((q : Int) - 1) = (q : Int) - 1 := IntWalk.i64_in _ (by omega)
      have hi3 : (i : Int) < 3 := by omega
      have hi3n : i < 3 := by omega
      have HC : Hid (w.heap.size + 1 ≤ wr.heap.size) := hid (by have := hS.out.x.lt; omega)
      obtain ⟨Lr, hL, ho, hr⟩ := hS.out.row
      have hl0 : Lr.length = i := by rw [← hli.out, ← hL, List.length_map]
      have HV : Hid (∀ k, (Value.slice Ar i cr).ownBlock = some k → k < wr.heap.size) := hid (fun k hk => (World.ownsRow.lt ho k hk).2)
      have HM1 : Hid (i + 1 ≤ maxLen) := by unfold maxLen; exact hid (by omega)
      have HM2 : Hid ((i + 1) * 40 ≤ 140737488355328) := hid (by omega)
      clear Lr hL ho hr hl0
      go_upto_region 5 with fail
      have hk' : SS w g c A L d s b m n PB po pc ls (.slice Ar i cr) wr.drew := hS.out.next (Below.refl _ wr).drew
      have HZ : Hid (wr.heap.size ≤ wr.drew.heap.size) := hid (Below.refl wr.heap.size wr).drew.size
      go_region_held3 (fun w' => w'.cell? ⟨0, 0, none⟩ = some (.slice (some ⟨PB, po, none⟩) 3 pc) ∧ w'.cell? ⟨PB, po + i, none⟩ = some (.string (ba (personS i))) ∧ w'.cell? ⟨w.heap.size, 0, none⟩ = some (.int .i64 d) ∧ w'.cell? ⟨w.heap.size, 1, none⟩ = some (.int .i64 s) ∧ w'.cell? ⟨w.heap.size, 2, none⟩ = some (.int .i64 b) ∧ w'.cell? ⟨w.heap.size, 3, none⟩ = some (.int .i64 m))
        (first | with_reducible exact hk'.cells hi3n | with_reducible exact (hk'.next ((Below.refl _ _).alloc (Nat.le_refl _) _)).cells hi3n)
        (first
          | (go_at_call 23; refine (HN.out _ 3 (by omega) (by omega) hk'.dice).mono ?_; rintro e wN ⟨r, rfl, hr3, kN, heN⟩; have HZN := hid (Nat.le_trans HZ.out heN.p.size); have hk' := hk'.played heN; clear heN)
          | (go_at_call 53; refine (HT.out _ r (by omega) hk'.dice).mono ?_; rintro e wT ⟨ts, At, ct, rfl, hts, hin, kT, heT⟩; have HTS := hid hts; have HIN := hid (fun X => (hin X).mono (P' := fun k => wr.heap.size ≤ k ∧ k < wT.heap.size) (fun k hk => ⟨Nat.le_trans HZN.out hk.1, hk.2⟩)); have hk' := hk'.played heT; clear heT hts hin)
          | (obtain ⟨Lr, hL, ho, hr⟩ := (hk'.next ((Below.refl _ wT).alloc (Nat.le_refl _) (.cells #[.string (ba (personS i)), .slice At ts.length ct] 34))).row
             have hl0 : Lr.length = i := by rw [← hli.out, ← hL, List.length_map]
             have ho' := ho
             rw [hl0] at ho'
             refine step_append_own_at rfl (.tmp 15) (.tmp 28) 22 rfl (w.heap.size + 1) 34 i5 (.agg #[.string ⟨#[]⟩, .slice none 0 0]) 2 40 Tryz.underlying22 hi5 hz5 hsi5 hby5 rfl (by decide) (.slice Ar i cr) i (lectVals Lr) (by simp [Act.eval]) ho' ⟨wT.heap.size, 0, none⟩ 1 1 [.string (ba (personS i)), .slice At ts.length ct] (by simp [Act.eval]) rfl (lect_cells wT _ _) (S9.lect_one (personS i, ts) (At, ct)) HM1.out HM2.out (by have := hk'.x.lt; simp; omega) ?_
             intro v' wA hown hgrow hat
             obtain ⟨gA, cA, rfl⟩ := ownsRow_succ (k := i) hown
             have HA := hid (SS.app (C := wr.heap.size) (r := (personS i, ts)) (q := (At, ct)) (hk'.next ((Below.refl _ wT).alloc (Nat.le_refl _) (.cells #[.string (ba (personS i)), .slice At ts.length ct] 34))) (((HIN.out (personS i)).kept (fun k hk => heap_alloc_old wT _ hk.2)).mono (fun k hk => ⟨hk.1, by simp; omega⟩)) HC.out HV.out hL ho hr (by rw [hl0]; exact hown) hgrow hat (hk'.ok.app (by rw [hli.out]; exact hi3n) ⟨by rw [hli.out], HTS.out.1, HTS.out.2⟩))
             clear hown hgrow hat hL ho hr ho' hl0
             have hk' := HA.out))
      all_goals
        go_wp2
        go_roundw
        case rel => exact ⟨q - 1, i + 1, ls ++ [(personS i, ts)], _, _, rfl, by congr 1; omega, by omega, hid (by rw [List.length_append, hli.out]; rfl), HA⟩
        case measure => simp [RowKit.intOf]; omega
    · have hqz : ¬ (0 : Int) < (q : Int) := by omega
      obtain ⟨k2, he2⟩ := hS.out.e
      obtain ⟨Lr, hL, ho, hr⟩ := hS.out.row
      have hl0 : Lr.length = ls.length := by rw [← hL, List.length_map]
      have HR : Hid (StaffP d s n g c A L w (.returned (.slice Ar i cr)) wr) := hid ⟨ls, _, k2, rfl, hS.out.ok, ⟨Lr, hL, by rw [← hl0]; exact row_low ho (by omega), fun p hp => (hr p hp).mono (fun k hk => ⟨by omega, hk.2.1⟩)⟩, he2⟩
      clear he2 hS hL ho hr hl0
      go_wp2
      go_ret
      exact HR.out
end Go.Proofs.YtnpfmoalgphkcaaGreatDoor

