/-
  What is written is read: plain mathematics. No program, no conditions.
  Grids and times of the week: plain mathematics. No program, no conditions.
  From a walk to a row, for every statement of this seat: a call that returns true and turns nothing that was there meets what a row asks. Condition: as the lemmas state.
  A time is read as it was written: plain mathematics. No program; condition: the time fits.
  Small general facts and definitions, taken out of G1. No program.
  The next made number, named: Next of timetablemade.Dice gives back a function of the list and the place. Conditions: the dice lie in memory.
  What is kept while the dice give out numbers, and what a function hands back through a cell. Conditions: as the lemmas state.
  A made set of weeks: Set of timetablemade.Dice gives back a number from 1 to 2^n - 1. Conditions: the dice lie in memory; n is from 1 to 20.
  Made grids and times: Grid, Time, One, OddGrid, OddTime of timetablemade.Dice. Conditions: the dice lie in memory; the grid is as made.
  Runs of weeks and their texts: the program's runAhead and writeItem, the specification's Decimal. Conditions: the weeks lie in memory as a slice of ints; the numbers are below 100.
  The specification's Format. Conditions: the words lie in memory as the text says.
-/
import Derived.Test.YtibbiddadkinhaaDoorHT01
import Derived.Test.YtibbiddadkinhaaDoorHT02
import Derived.Test.YtibbiddadkinhaaDoorHT03
import Derived.Test.YtibbiddadkinhaaDoorHT04
import Derived.Test.YtibbiddadkinhaaDoorHT05
import Derived.Test.YtibbiddadkinhaaDoorHT06
import Derived.Test.YtibbiddadkinhaaDoorHT07
import Derived.Test.YtibbiddadkinhaaDoorHT08
import Derived.Test.YtibbiddadkinhaaDoorHT09
import Derived.Test.YtibbiddadkinhaaDoorHT10
import Derived.Test.YtibbiddadkinhaaDoorHR01
import Derived.Test.YtibbiddadkinhaaDoorProg
import Derived.WalkKit
import Derived.WalkSpells
import Derived.WalkLawsBesides
import Derived.Lib.Hide
import Derived.Deep.QuietTactic
import Derived.BigQuiet
import Derived.Laws.Rows
import Derived.OwnWalk
import Derived.Lib.BufferWrite
import Derived.Lib.UnsafeStr
import Derived.Laws.IdiomStrings
import Derived.Laws.BytesArg
import Derived.Laws.BytesString
import Derived.Laws.OwnMore
import Derived.Lib.IndexLaws
import Derived.Lib.ItoaNum
import Derived.Lib.Atoi
import Derived.Laws.BitsAllLaws
import Derived.Laws.BitsLemmas
import Derived.Deep.MidRow
import Derived.Shelf.Strings.Builder1
import Derived.Shelf.Strings.Builder2
import Derived.Shelf.Strings.OnBuilder
import Derived.Shelf.Strings.BuilderF
import Derived.Shelf.Strings.BuilderK
import Derived.Shelf.Strings.Builder2Cap
import Derived.Shelf.Strconv.Atoi
import Derived.Shelf.Strconv.Itoa0
import Derived.Shelf.Strconv.Itoa1
import Derived.Shelf.LaysM
import Derived.Shelf.Strconv.Itoa2
import Derived.Shelf.Strconv.Itoa3
import Derived.Shelf.Strconv.AtoiErrFast
import Derived.Shelf.Strconv.ParseIntEmpty
import Derived.Shelf.Strconv.AtoiFail
import Derived.Shelf.Strconv.Clone
import Derived.Shelf.Strconv.SyntaxError
import Derived.Shelf.LaysC
import Derived.Shelf.Strconv.ToError
import Derived.Shelf.Strconv.AtoiErr
import Derived.Shelf.Strings.Search1
import Derived.Shelf.Strings.Search2
import Derived.Shelf.Strings.Search3
import Derived.Shelf.Strings.Cut
import Derived.Shelf.Strings.Shaped
import Derived.Shelf.Strings.Prefix
import Derived.Shelf.Unicode.DecodeSlow
import Derived.Shelf.Strings.BuilderCap
import Derived.Lib.AtoiErrMem
import Derived.Handy
import Derived.Test.YtibbiddadkinhaaDoorCards
import Derived.Test.YtibbiddadkinhaaDoorTie
import Derived.Lib.SmallJoins
import Derived.SizedLaws
import Derived.Stop.LaidErr
import Derived.Deep.DeepWitnessRowRef
import Derived.ProofKit
import Derived.OpenShut
import Derived.Deep.DeepHandedRow
import Derived.Deep.DeepLaidRun
import Derived.Lib.LaidU8
import Derived.Shelf.Vars
import Derived.Deep.RegionLaw
import Derived.Deep.RegionHeld3
import Derived.Laws.ResultCell
set_option linter.unusedVariables false
namespace Go.Proofs.YtibbiddadkinhaaDoor
open Go Go.Lib

theorem split_app : ∀ (x y : Str), splitL (x ++ 44 :: y) = splitL x ++ splitL y
  | [], y => by simp [splitL]
  | c :: x, y => by
    have ih := split_app x y
    rw [List.cons_append]
    by_cases hc : c = 44
    · subst hc
      simp only [splitL, if_true, ih, List.cons_append]
    · simp only [splitL, if_neg hc, ih]
      have hne : splitL x ≠ [] := by
        cases x with
        | nil => simp [splitL]
        | cons c s => simp only [splitL]; split <;> simp
      obtain ⟨a, t, hat⟩ : ∃ a t, splitL x = a :: t := by cases hs : splitL x with | nil => exact absurd hs hne | cons a t => exact ⟨a, t, rfl⟩
      rw [hat]
      simp
theorem split_join : ∀ (l : List Str), l ≠ [] → (∀ x ∈ l, has 44 x = false) → splitL (joinC l) = l
  | [], h, _ => absurd rfl h
  | [x], _, h => split_one x (h x (by simp))
  | x :: y :: l, _, h => by
    have ih := split_join (y :: l) (by simp) (fun z hz => h z (List.mem_cons_of_mem _ hz))
    have e : joinC (x :: y :: l) = x ++ 44 :: joinC (y :: l) := rfl
    rw [e, split_app, ih, split_one x (h x (by simp))]
    rfl
theorem item_table : ∀ a b : Fin 21, 1 ≤ a.val → a.val ≤ b.val → kindOf (itemT a.val b.val) = none ∧ fromN (itemT a.val b.val) = a.val ∧ toN (itemT a.val b.val) = b.val ∧ has 44 (itemT a.val b.val) = false := by decide +kernel
theorem item_text {a b n : Nat} (h1 : 1 ≤ a) (h2 : a ≤ b) (h3 : b ≤ n) (h4 : n ≤ 20) : itemM (itemT a b) n = (spanN a b, 0) ∧ has 44 (itemT a b) = false := by
  obtain ⟨k1, k2, k3, k4⟩ := item_table ⟨a, by omega⟩ ⟨b, by omega⟩ h1 h2
  dsimp only at k1 k2 k3 k4
  refine ⟨?_, k4⟩
  unfold itemM
  rw [k1]
  show numM (itemT a b) n = _
  unfold numM
  rw [k2, k3, if_neg (by omega), if_neg (by omega)]
def orR (rs : List (Nat × Nat)) (acc : Nat) : Nat := rs.foldl (fun acc r => acc ||| spanN r.1 r.2) acc
theorem go_runs {n : Nat} (hn : n ≤ 20) : ∀ (rs : List (Nat × Nat)) (acc : Nat), (∀ r ∈ rs, 1 ≤ r.1 ∧ r.1 ≤ r.2 ∧ r.2 ≤ n) → goP n (rs.map fun r => itemT r.1 r.2) acc = (orR rs acc, 0)
  | [], acc, _ => rfl
  | r :: rs, acc, h => by
    obtain ⟨a, b, c⟩ := h r (by simp)
    have hi := (item_text a b c hn).1
    rw [List.map_cons, goP_ok (by rw [hi]), hi]
    exact go_runs hn rs _ (fun x hx => h x (List.mem_cons_of_mem _ hx))
theorem orR_bit : ∀ (rs : List (Nat × Nat)) (acc i : Nat), (∀ r ∈ rs, 1 ≤ r.1 ∧ r.1 ≤ r.2) → ((orR rs acc).testBit i = true ↔ acc.testBit i = true ∨ ∃ r ∈ rs, r.1 ≤ i + 1 ∧ i + 1 ≤ r.2)
  | [], acc, i, _ => by simp [orR]
  | r :: rs, acc, i, h => by
    obtain ⟨a, b⟩ := h r (by simp)
    have ih := orR_bit rs (acc ||| spanN r.1 r.2) i (fun x hx => h x (List.mem_cons_of_mem _ hx))
    show (orR rs (acc ||| spanN r.1 r.2)).testBit i = true ↔ _
    rw [ih, Nat.testBit_or, span_bit a (by omega)]
    simp only [Bool.or_eq_true, decide_eq_true_eq, List.mem_cons, exists_eq_or_imp]
    constructor
    · rintro ((h | ⟨h1, h2⟩) | h)
      · exact .inl h
      · exact .inr (.inl ⟨h1, by omega⟩)
      · exact .inr (.inr h)
    · rintro (h | ⟨h1, h2⟩ | h)
      · exact .inl (.inl h)
      · exact .inl (.inr ⟨h1, by omega⟩)
      · exact .inr h
theorem runs_ok {s n : Nat} (hs : s < 2 ^ n) (hn : n ≤ 20) : ∀ r ∈ runs (weeksP s 20), 1 ≤ r.1 ∧ r.1 ≤ r.2 ∧ r.2 ≤ n := fun r hr => by
  obtain ⟨h1, h2, h3⟩ := runs_mem _ _ (Nat.le_refl _) r hr
  have m1 := (mem_weeksP s 20 _).1 h1
  have m3 := (mem_weeksP s 20 _).1 h3
  refine ⟨m1.1, h2, ?_⟩
  rcases Nat.lt_or_ge n r.2 with h | h
  · have := bitB_top hs (show n ≤ r.2 - 1 by omega)
    rw [this] at m3
    simp at m3
  · exact h
theorem orR_runs {s n : Nat} (hs : s < 2 ^ n) (hn : n ≤ 20) : orR (runs (weeksP s 20)) 0 = s := by
  apply Nat.eq_of_testBit_eq
  intro i
  have h := orR_bit (runs (weeksP s 20)) 0 i (fun r hr => by have := runs_ok hs hn r hr; omega)
  rw [← mem_runs _ _ (Nat.le_refl _), mem_weeksP] at h
  rw [Bool.eq_iff_iff, h]
  simp only [Nat.zero_testBit, Bool.false_eq_true, false_or, Nat.add_sub_cancel, bitB_test]
  constructor
  · exact fun h => h.2.2
  · intro h
    refine ⟨by omega, ?_, h⟩
    rcases Nat.lt_or_ge i 20 with h' | h'
    · omega
    · have := bitB_top hs (show n ≤ i by omega)
      rw [bitB_test, h] at this
      simp at this
theorem nameK_of {s n k : Nat} (h : nameK s n = some k) : k < 5 ∧ nmM k n = s := by
  unfold nameK at h
  have h1 := List.mem_of_find?_eq_some h
  have h2 := List.find?_some h
  exact ⟨List.mem_range.1 h1, of_decide_eq_true h2⟩
/-- The text of a set means the set. -/
theorem form_go {s n : Nat} (h1 : 1 ≤ s) (hs : s < 2 ^ n) (hn : n ≤ 20) : goP n (splitL (formN s n)) 0 = (s, 0) := by
  unfold formN
  cases hk : nameK s n with
  | some k =>
    obtain ⟨h5, he⟩ := nameK_of hk
    show goP n (splitL (wordS k)) 0 = _
    rw [go_word h5, he, Nat.zero_or]
  | none =>
    show goP n (splitL (textM s)) 0 = _
    have hr := runs_ok hs hn
    have hne : runs (weeksP s 20) ≠ [] := fun e => by
      have := orR_runs hs hn
      rw [e] at this
      simp [orR] at this
      omega
    unfold textM
    rw [split_join _ (by simpa using hne) (fun x hx => by
      obtain ⟨r, hr', rfl⟩ := List.mem_map.1 hx
      obtain ⟨a, b, c⟩ := hr r hr'
      exact (item_text a b c hn).2), go_runs hn _ 0 hr, orR_runs hs hn]
theorem parse_form {s n : Nat} (h1 : 1 ≤ s) (hs : s < 2 ^ n) (hn1 : 1 ≤ n) (hn : n ≤ 20) : parseM (formN s n) (n : Int) = (s, 0) := by
  unfold parseM
  rw [if_pos ⟨by omega, by omega⟩, Int.toNat_natCast]
  unfold parseN
  rw [form_go h1 hs hn, if_neg (by simp), if_neg (by show ¬ s = 0; omega)]
end Go.Proofs.YtibbiddadkinhaaDoor

set_option linter.unusedVariables false
namespace Go.Proofs.YtibbiddadkinhaaDoor
open Go Go.Lib

/-! ### texts of times -/
/-- The text of a time. -/
def timeT (n k y t l : Nat) : Str := dayS y ++ 32 :: itemT (t + 1) (t + l) ++ (if formN k n = [97, 108, 108] then [] else 32 :: formN k n)
/-- What Format hands back. -/
def textT (d s b m n k y t l : Int) : Str × Int := if fitsM d s b m n k y t l = 0 then (timeT n.toNat k.toNat y.toNat t.toNat l.toNat, 0) else ([], fitsM d s b m n k y t l)

/-! ### what is used of them -/
theorem day_sign : ∀ k : Fin 7, has 32 (dayS k.val) = false := by decide
end Go.Proofs.YtibbiddadkinhaaDoor

set_option linter.unusedVariables false
namespace Go.Proofs.YtibbiddadkinhaaDoor
open Go Go.Proofs Go.ChangeShapes Go.WideShapes Go.ChangeAt Go.RowKit

section
variable {H : Type} {enc : TypeId × Value → H} {P : Program}
end

theorem rowInts : Tryd.prog.readableRec 36 = true ∧ 36 < Tryd.prog.types.size := ⟨by kernel_rfl, of_decide_eq_true (by kernel_rfl)⟩
section
variable {H : Type} {enc : TypeId × Value → H} {w : World} {base : Nat} {sp : Nat → Bool} {held : Bool}
end
end Go.Proofs.YtibbiddadkinhaaDoor

set_option linter.unusedVariables false
namespace Go.Proofs.YtibbiddadkinhaaDoor
open Go Go.Lib

theorem cutAt (c : UInt8) : ∀ (a r : Str), has c a = false → bef c (a ++ c :: r) = a ∧ aft c (a ++ c :: r) = r ∧ has c (a ++ c :: r) = true
  | [], r, _ => by simp [bef, aft, has]
  | x :: a, r, h => by
    simp [has] at h
    obtain ⟨h1, h2, h3⟩ := cutAt c a r h.2
    simp only [List.cons_append, bef, aft, has, if_neg h.1, h1, h2, h3]
    simp
theorem item24 : ∀ a b : Fin 25, 1 ≤ a.val → a.val ≤ b.val → fromN (itemT a.val b.val) = a.val ∧ toN (itemT a.val b.val) = b.val ∧ has 32 (itemT a.val b.val) = false := by decide +kernel
theorem join_space : ∀ (l : List Str), (∀ x ∈ l, has 32 x = false) → has 32 (joinC l) = false
  | [], _ => rfl
  | [x], h => h x (by simp)
  | x :: y :: l, h => by
    show has 32 (x ++ 44 :: joinC (y :: l)) = false
    rw [has_app, h x (by simp)]
    simp only [has]
    rw [join_space (y :: l) (fun z hz => h z (List.mem_cons_of_mem _ hz))]
    rfl
theorem word_space : ∀ k : Fin 5, has 32 (wordS k.val) = false := by decide
theorem form_space {s n : Nat} (hs : s < 2 ^ n) (hn : n ≤ 20) : has 32 (formN s n) = false := by
  unfold formN
  cases h : nameK s n with
  | some k => exact word_space ⟨k, (nameK_of h).1⟩
  | none =>
    refine join_space _ (fun x hx => ?_)
    obtain ⟨r, hr, rfl⟩ := List.mem_map.1 hx
    obtain ⟨h1, h2, h3⟩ := runs_ok hs hn r hr
    exact (item24 ⟨r.1, by omega⟩ ⟨r.2, by omega⟩ h1 h2).2.2
theorem parseN_form {s n : Nat} (h1 : 1 ≤ s) (hs : s < 2 ^ n) (hn1 : 1 ≤ n) (hn : n ≤ 20) : parseN (formN s n) n = (s, 0) := by
  have h := parse_form h1 hs hn1 hn
  unfold parseM at h
  rw [if_pos (by omega), Int.toNat_natCast] at h
  exact h
theorem parseN_nil (n : Nat) : parseN [] n = (0, 4) := by
  have h : goP n (splitL []) 0 = (0, 4) := by
    show goP n [[]] 0 = _
    have h0 : itemM [] n = (0, 4) := by
      unfold itemM
      rw [show kindOf [] = none by decide]
      rfl
    rw [goP_err (by rw [h0]; simp), h0]
  unfold parseN
  rw [h]
  rfl
theorem valid_of' {k : Nat} {N : Int} (h : validM k N = true) : 1 ≤ N ∧ N ≤ 20 ∧ 1 ≤ k ∧ k < 2 ^ N.toNat := by
  obtain ⟨h1, h2, h3⟩ := of_decide_eq_true h
  refine ⟨h1.1, h1.2, by omega, ?_⟩
  have e : (2 : Int) ^ N.toNat = ((2 ^ N.toNat : Nat) : Int) := by rw [Int.natCast_pow]; rfl
  omega
theorem fits_of {d s b m n k y t l : Int} (h : fitsM d s b m n k y t l = 0) : frameB d s b m n = true ∧ soundB k y t l = true ∧ validM k n = true ∧ y < d ∧ t + l ≤ s := by
  unfold fitsM at h
  split at h
  · split at h
    · rename_i h1 h2
      exact ⟨h1, h2⟩
    · omega
  · omega
theorem time_parts {n k y t l : Nat} (hy : y < 7) (hl : 1 ≤ l) (htl : t + l ≤ 24) (h1 : 1 ≤ k) (hk : k < 2 ^ n) (hn : n ≤ 20) :
    wDay (timeT n k y t l) = dayS y ∧ wSlots (timeT n k y t l) = itemT (t + 1) (t + l) ∧ has 32 (timeT n k y t l) = true ∧
    wThree (timeT n k y t l) = decide (formN k n ≠ [97, 108, 108]) ∧ (formN k n ≠ [97, 108, 108] → wSet (timeT n k y t l) = formN k n) := by
  have hi := (item24 ⟨t + 1, by omega⟩ ⟨t + l, by omega⟩ (by simp) (by simp; omega)).2.2
  dsimp only at hi
  have hd := day_sign ⟨y, hy⟩
  dsimp only at hd
  unfold wDay wSlots wThree wSet timeT
  by_cases hf : formN k n = [97, 108, 108]
  · rw [if_pos hf, List.append_nil]
    obtain ⟨a1, a2, a3⟩ := cutAt 32 (dayS y) (itemT (t + 1) (t + l)) hd
    rw [a1, a2, a3, hi]
    exact ⟨rfl, (bef_miss 32 _ hi).1, rfl, (decide_eq_false (fun h => h hf)).symm, fun h => absurd hf h⟩
  · rw [if_neg hf]
    rw [List.append_assoc, List.cons_append]
    obtain ⟨a1, a2, a3⟩ := cutAt 32 (dayS y) (itemT (t + 1) (t + l) ++ 32 :: formN k n) hd
    obtain ⟨b1, b2, b3⟩ := cutAt 32 (itemT (t + 1) (t + l)) (formN k n) hi
    rw [a1, a2, a3, b1, b2, b3]
    exact ⟨rfl, rfl, rfl, (decide_eq_true hf).symm, fun _ => rfl⟩
theorem time_read {d s b m : Int} {n k y t l : Nat} (hf : fitsM d s b m n k y t l = 0) : timeM d s b m n (timeT n k y t l) = (((k : Int), (y : Int), (t : Int), (l : Int)), 0) := by
  obtain ⟨f1, f2, f3, f4, f5⟩ := fits_of hf
  obtain ⟨g1, g2, g3⟩ := frame_of f1
  obtain ⟨s1, s2, s3, s4, s5⟩ := sound_of f2
  obtain ⟨v1, v2, v3, v4⟩ := valid_of' f3
  rw [Int.toNat_natCast] at v4
  have hn : n ≤ 20 := by omega
  obtain ⟨p1, p2, p3, p4, p5⟩ := time_parts (n := n) (k := k) (y := y) (t := t) (l := l) (by omega) (by omega) (by omega) v3 v4 hn
  have hi := item24 ⟨t + 1, by omega⟩ ⟨t + l, by omega⟩ (by simp) (by simp; omega)
  dsimp only at hi
  obtain ⟨i1, i2, i3⟩ := hi
  have hform := parseN_form v3 v4 (show 1 ≤ n by omega) hn
  have hW : weeksT (timeT n k y t l) n = (k, 0) := by
    unfold weeksT
    rw [p4]
    by_cases hfa : formN k n = [97, 108, 108]
    · rw [if_neg (by simp [hfa])]
      rw [hfa, parse_all (by omega) hn] at hform
      exact hform
    · rw [if_pos (decide_eq_true hfa), p5 hfa]
      exact hform
  have hwb : wordsB (timeT n k y t l) = true := by
    unfold wordsB
    rw [p4]
    refine decide_eq_true (fun h => ?_)
    have hfa := of_decide_eq_true h
    rw [p5 hfa]
    refine ⟨fun e => ?_, form_space v4 hn⟩
    rw [e, parseN_nil] at hform
    injection hform with h1 h2
    simp at h2
  unfold timeM
  rw [if_pos f1, Int.toNat_natCast]
  unfold bodyT
  rw [p1, p2, i1, i2, if_pos ⟨hwb, by omega⟩, dayK_of (show y < 7 by omega) rfl]
  show readT d s n _ y = _
  unfold readT
  rw [p2, i1, i2, hW, if_pos ⟨f4, by omega, by omega⟩, if_pos rfl]
  dsimp only
  congr 1
  refine Prod.ext rfl (Prod.ext rfl (Prod.ext ?_ ?_))
  · show ((t + 1 : Nat) : Int) - 1 = t
    omega
  · show ((t + l : Nat) : Int) - ((t + 1 : Nat) : Int) + 1 = l
    omega
theorem form_lenM {s n : Nat} : (formN s n).length ≤ 200 := by
  unfold formN
  cases nameK s n with
  | some k =>
    show (wordS k).length ≤ 200
    unfold wordS
    split <;> simp
  | none =>
    show (textM s).length ≤ 200
    unfold textM
    have h1 := joinC_len ((runs (weeksP s 20)).map fun r => itemT r.1 r.2) (fun x hx => by
      obtain ⟨r, _, rfl⟩ := List.mem_map.1 hx
      exact itemT_len _ _)
    have h2 := runs_len _ (weeksP s 20) (Nat.le_refl _)
    have h3 := weeksP_len s 20
    rw [List.length_map] at h1
    omega
theorem time_len {n k y t l : Nat} : (timeT n k y t l).length ≤ 300 := by
  have h1 := form_lenM (s := k) (n := n)
  have h2 := itemT_len (t + 1) (t + l)
  have h3 : (dayS y).length ≤ 2 := by unfold dayS; split <;> simp
  unfold timeT
  split
  · simp only [List.length_append, List.length_cons, List.length_nil]
    omega
  · simp only [List.length_append, List.length_cons]
    omega
end Go.Proofs.YtibbiddadkinhaaDoor

set_option linter.unusedVariables false
namespace Go.Proofs.YtibbiddadkinhaaDoor
open Go Go.Proofs Go.RowKit Go.Lib

theorem row_drawn {w : World} {B e z n : Nat} {v : Value} {xs : List Value} (h : w.ownsRow B e z v n xs) (q : Nat) : (w.drewN q).ownsRow B e z v n xs :=
  (Rolled.drawn w.heap.size w q).row h (fun e => by have := (h.lt _ e).2; omega)


end Go.Proofs.YtibbiddadkinhaaDoor

set_option linter.unusedVariables false
namespace Go.Proofs.YtibbiddadkinhaaDoor
open Go Go.Proofs Go.RowKit Go.Lib

def rollV (L : List Int) (k : Nat) (n : Int) : Int := match L[k]? with | some v => modI v n | none => 0
def rollK (L : List Int) (k : Nat) : Nat := if k < L.length then k + 1 else k
theorem rollV_range (L : List Int) (k : Nat) (n : Int) (h : 1 ≤ n) : 0 ≤ rollV L k n ∧ rollV L k n < n := by
  unfold rollV
  split
  · exact modI_range _ n h
  · omega

set_option maxHeartbeats 2000000 in
set_option maxRecDepth 100000 in
theorem next_at (g c k : Nat) (A : Option Addr) (L : List Int) (n : Int) (hn : n ≤ 4294967296) (w : World) (h : DiceAt w g A L c k) :
    Calls Tryd.prog 23 #[.pointer (some ⟨g, 0, none⟩), .int .i64 n] w fun e w' => e = .returned (.int .i64 (rollV L k n)) ∧ DiceAt w' g A L c (rollK L k) ∧ Rolled g w w' := by
  have h0 := h.list
  have h1 := h.at_
  have hle := h.le
  have hfew := h.few
  have H := hid h
  clear h
  by_cases hk : k < L.length
  · obtain ⟨v, hv⟩ : ∃ v, L[k]? = some v := ⟨_, List.getElem?_eq_getElem hk⟩
    have hr1 : rollV L k n = modI v n := by unfold rollV; rw [hv]
    have hr2 : rollK L k = k + 1 := if_pos hk
    rw [hr1, hr2]
    have HV := hid hv
    clear hr1 hr2 hv
    have hkz : ¬ (L.length : Int) ≤ (k : Int) := by omega
    have hkb : decide (L.length ≤ k) = false := decide_eq_false (by omega)
    go_enter Tryd.func23, Tryd.ntmps23
    go_wp2
    go_quiet (fail)
    have hD := H.out.drawn nq
    have hR := Rolled.drawn g w nq
    generalize w.drewN nq = w1 at hD hR ⊢
    clear h0 h1 H
    have h0 := hD.list
    have h1 := hD.at_
    have hf := hD.free 1
    have hD2 := hD.next hk
    have hR2 := hR.trans (Rolled.set g 1 w1 (.int .i64 ((k : Int) + 1)))
    have HD2 := hid hD2
    have HR2 := hid hR2
    clear hD hR hD2 hR2
    go_wp2
    have hD := HD2.out
    have hR := HR2.out
    clear HD2 HR2 h0 h1 hf
    generalize w1.setCell ⟨g, 1, none⟩ (.int .i64 ((k : Int) + 1)) = w2 at hD hR ⊢
    have h0 := hD.list
    have h1 := hD.at_
    rw [show (((k + 1 : Nat)) : Int) = (k : Int) + 1 by omega] at h1
    obtain ⟨b, off, rfl, hc⟩ : ∃ b off, A = some ⟨b, off, none⟩ ∧ w2.cell? ⟨b, off + k, none⟩ = some (.int .i64 v) := by
      rcases hD.ints with h' | ⟨b, off, hA, _, hc⟩
      · rw [h'] at hk; simp at hk
      · exact ⟨b, off, hA, hc k v HV.out⟩
    have HD := hid hD
    have HR := hid hR
    clear hD hR
    go_quiet ((go_at_call 39; with_reducible refine Calls.quiet_of_same ((mod_any v n hn _).mono fun _ _ h => ⟨h.1, h.2.symm⟩)))
    go_wp2
    go_ret
    exact ⟨rfl, HD.out.drawn nq, HR.out.trans (Rolled.drawn g w2 nq)⟩
  · have hr1 : rollV L k n = 0 := by
      unfold rollV
      rw [List.getElem?_eq_none (by omega)]
    have hr2 : rollK L k = k := if_neg hk
    rw [hr1, hr2]
    clear hr1 hr2
    have hkz : (L.length : Int) ≤ (k : Int) := by omega
    have hkb : decide (L.length ≤ k) = true := decide_eq_true (by omega)
    go_enter Tryd.func23, Tryd.ntmps23
    go_wp2
    go_quiet (fail)
    go_wp2
    go_ret
    exact ⟨rfl, H.out.drawn nq, Rolled.drawn g w nq⟩
end Go.Proofs.YtibbiddadkinhaaDoor

set_option linter.unusedVariables false
namespace Go.Proofs.YtibbiddadkinhaaDoor
open Go Go.Proofs Go.RowKit Go.Lib

/-- The dice lie there, and but for them all that was there is as it was. -/
structure DE (w0 : World) (g c : Nat) (A : Option Addr) (L : List Int) (k : Nat) (w : World) : Prop where
  d : DiceAt w g A L c k
  p : Played w0.heap.size g w0 w
section
variable {w0 w w' : World} {g c k k' : Nat} {A : Option Addr} {L : List Int}
theorem DE.first (h : DiceAt w g A L c k) : DE w g c A L k w := ⟨h, Played.refl _ _ _⟩
theorem DE.alloc (h : DE w0 g c A L k w) (o : Obj) : DE w0 g c A L k (w.alloc o) :=
  ⟨h.d.below (Below.alloc (Below.refl _ _) (Nat.le_refl _) o) h.d.lt, h.p.below (Below.alloc (Below.refl _ _) h.p.size o)⟩
theorem DE.drawn (h : DE w0 g c A L k w) (n : Nat) : DE w0 g c A L k (w.drewN n) :=
  ⟨h.d.drawn n, h.p.below (below_drawn (Below.refl _ _) n)⟩
theorem DE.set (h : DE w0 g c A L k w) (b o : Nat) (v : Value) (hb : w0.heap.size ≤ b) (hg : g < b) : DE w0 g c A L k (w.setCell ⟨b, o, none⟩ v) :=
  ⟨h.d.below (B := b) ((Below.refl b w).setCell (p := ⟨b, o, none⟩) (Nat.le_refl _) v) hg, h.p.below ((Below.refl _ w).setCell (p := ⟨b, o, none⟩) hb v)⟩
theorem DE.next (h : DE w0 g c A L k w) (hd : DiceAt w' g A L c k') (hr : Rolled g w w') : DE w0 g c A L k' w' := ⟨hd, h.p.rolled hr⟩
theorem DE.below (h : DE w0 g c A L k w) (hb : Below w0.heap.size w w') (hg : g < w0.heap.size) : DE w0 g c A L k w' := ⟨h.d.below hb hg, h.p.below hb⟩
end
theorem Rolled.cells {g : Nat} {w w' : World} (h : Rolled g w w') : ∀ b o, b ≠ g → w'.cell? ⟨b, o, none⟩ = w.cell? ⟨b, o, none⟩ := fun b o hb => World.cell?_of_block (w := w) (h.block b hb)
theorem Rolled.frozen {g : Nat} {w w' : World} (h : Rolled g w w') : ∀ b o, b ≠ g → w'.frozen? ⟨b, o, none⟩ = w.frozen? ⟨b, o, none⟩ := fun b o hb => World.frozen?_of_block (w := w) (h.block b hb)
theorem results_c {fn : Func} {p : Tmp} {A : TypeId} (h : fn.results = #[.cell p A]) (tmps : Array Value) (P : Program) (w : World) (a : Addr) (va : Value)
    (ha : tmps.getD p undef = .pointer (some a)) (hla : (loadVar A a).run P w = .ok va w) : (results fn tmps).run P w = .ok va w := by
  rw [Array.getD_eq_getD_getElem?] at ha
  simp only [results, h]
  simp [ha, hla, asAddr]
theorem IntRow.rolled {B g : Nat} {a w : World} {v : Value} {l : List Int} (hr : IntRow a B v l) (h : Rolled g a w) (hg : g < B) : IntRow w B v l :=
  h.row hr (fun e => by have := World.ownsRow.lt hr g e; omega)
end Go.Proofs.YtibbiddadkinhaaDoor

set_option linter.unusedVariables false
namespace Go.Proofs.YtibbiddadkinhaaDoor
open Go Go.Proofs Go.RowKit Go.Lib

/-- What Set hands back. -/
def SetP (n : Nat) (g c : Nat) (A : Option Addr) (L : List Int) (w0 : World) (e : Ending) (w' : World) : Prop :=
  (∃ S : Int, e = .returned (.int .i64 S) ∧ 1 ≤ S ∧ S < 2 ^ n) ∧ (∃ k', DiceAt w' g A L c k') ∧ Rolled g w0 w'
theorem set_ofInt (a : Nat) (ha : a < 9223372036854775808) : (BitVec.ofInt 64 (a : Int)).toNat = a := by
  rw [BitVec.ofInt_natCast, BitVec.toNat_ofNat]; exact Nat.mod_eq_of_lt (by omega)
theorem set_and (a b : Nat) (ha : a < 9223372036854775808) (hb : b < 9223372036854775808) : bits .and .i64 (a : Int) (b : Int) = ((a &&& b : Nat) : Int) := by
  have hx : a &&& b < 2 ^ 63 := Nat.and_lt_two_pow _ (by omega)
  show IntKind.i64.wrap ((BitVec.ofInt 64 (a : Int) &&& BitVec.ofInt 64 (b : Int)).toNat : Int) = _
  rw [BitVec.toNat_and, set_ofInt a ha, set_ofInt b hb, IntKind.wrap_i64]
  omega
theorem set_odd : ∀ n : Fin 21, 1 ≤ n.val → 1 ≤ 349525 &&& (2 ^ n.val - 1) ∧ 349525 &&& (2 ^ n.val - 1) < 2 ^ n.val := by decide
theorem set_odd' (n : Nat) (h1 : 1 ≤ n) (h2 : n ≤ 20) : ∃ v : Int, bits .and .i64 349525 ((2 : Int) ^ n - 1) = v ∧ 1 ≤ v ∧ v < 2 ^ n := by
  obtain ⟨a, b⟩ := set_odd ⟨n, by omega⟩ h1
  simp only at a b
  have hp : 2 ^ n ≤ 2 ^ 20 := Nat.pow_le_pow_right (by omega) h2
  have hp1 : 0 < 2 ^ n := Nat.two_pow_pos n
  have e : (2 : Int) ^ n - 1 = ((2 ^ n - 1 : Nat) : Int) := by
    rw [Int.natCast_sub (by omega), Int.natCast_pow]
    rfl
  refine ⟨_, rfl, ?_, ?_⟩
  · rw [e, show (349525 : Int) = ((349525 : Nat) : Int) by rfl, set_and _ _ (by omega) (by omega)]
    omega
  · rw [e, show (349525 : Int) = ((349525 : Nat) : Int) by rfl, set_and _ _ (by omega) (by omega)]
    rw [show (2 : Int) ^ n = ((2 ^ n : Nat) : Int) by rw [Int.natCast_pow]; rfl]
    omega

set_option maxHeartbeats 4000000 in
set_option maxRecDepth 100000 in
theorem set_any (n : Nat) (h1 : 1 ≤ n) (h2 : n ≤ 20) (g c k : Nat) (A : Option Addr) (L : List Int) (w : World) (h : DiceAt w g A L c k) :
    Calls Tryd.prog 40 #[.pointer (some ⟨g, 0, none⟩), .int .i64 (n : Int)] w (SetP n g c A L w) := by
  have HN := hid (fun (W : World) k n hn (h : DiceAt W g A L c k) => next_at g c k A L n hn W h)
  have HD := hid h
  have hp : (2 : Int) ^ n ≤ 1048576 := by
    have : 2 ^ n ≤ 2 ^ 20 := Nat.pow_le_pow_right (by omega) h2
    have e : (2 : Int) ^ n = ((2 ^ n : Nat) : Int) := by rw [Int.natCast_pow]; rfl
    omega
  have hp2 : (2 : Int) ≤ 2 ^ n := by
    have : 2 ^ 1 ≤ 2 ^ n := Nat.pow_le_pow_right (by omega) h1
    have e : (2 : Int) ^ n = ((2 ^ n : Nat) : Int) := by rw [Int.natCast_pow]; rfl
    omega
  obtain ⟨V, hV, hV1, hV2⟩ := set_odd' n h1 h2
  clear h
  go_enter Tryd.func40, Tryd.ntmps40
  go_wp2_with fail
  refine (HN.out _ _ _ (by omega) HD.out).mono ?_
  rintro e w2 ⟨rfl, hd2, hR2⟩
  obtain ⟨r, hr⟩ : ∃ r, rollV L k 4 = r := ⟨_, rfl⟩
  rw [hr]
  have HD2 := hid hd2
  have HR2 := hid hR2
  clear hr hd2 hR2
  by_cases e0 : r = 0
  · subst e0
    go_wp2_with fail
    go_ret
    exact ⟨⟨2 ^ n - 1, rfl, by omega, by omega⟩, ⟨_, HD2.out⟩, HR2.out⟩
  · have e0' : (r == 0) = false := by simpa using e0
    by_cases e1 : r = 1
    · subst e1
      go_wp2_with fail
      go_ret
      exact ⟨⟨V, rfl, hV1, hV2⟩, ⟨_, HD2.out⟩, HR2.out⟩
    · have e1' : (r == 1) = false := by simpa using e1
      clear e0 e1
      go_wp2_with fail
      refine (HN.out _ _ _ (by omega) HD2.out).mono ?_
      rintro e w3 ⟨rfl, hd3, hR3⟩
      obtain ⟨q, hq⟩ : ∃ q, rollV L (rollK L k) (2 ^ n - 1) = q := ⟨_, rfl⟩
      have hqq := rollV_range L (rollK L k) (2 ^ n - 1) (by omega)
      rw [hq] at hqq ⊢
      have HD3 := hid hd3
      have HR3 := hid (HR2.out.trans hR3)
      clear hq hd3 hR3
      go_wp2_with fail
      go_ret
      exact ⟨⟨1 + q, rfl, by omega, by omega⟩, ⟨_, HD3.out⟩, HR3.out⟩
end Go.Proofs.YtibbiddadkinhaaDoor

set_option linter.unusedVariables false
namespace Go.Proofs.YtibbiddadkinhaaDoor
open Go Go.Proofs Go.RowKit Go.Lib

section
variable {T : TypeId} {w w' : World} {B : Nat} {a b x d : Int}
theorem Cells4.roll {g : Nat} (h : Cells4 T w B a b x d) (k : Rolled g w w') (hg : B ≠ g) : Cells4 T w' B a b x d := (k.block _ hg).trans h
theorem Cells4.other (h : Cells4 T w B a b x d) (R j : Nat) (v : Value) (hR : B ≠ R) : Cells4 T (w.setCell ⟨R, j, none⟩ v) B a b x d := (Below.heap_setCell w ⟨R, j, none⟩ v B (by show B ≠ R; exact hR)).trans h
end
theorem load_grid {w : World} {B : Nat} {a b x d : Int} (h : Cells4 23 w B a b x d) : (loadVar 23 ⟨B, 0, none⟩).run Tryd.prog w = .ok (.agg #[.int .i64 a, .int .i64 b, .int .i64 x, .int .i64 d]) w := by
  obtain ⟨h0, h1, h2, h3, _⟩ := h.box
  simp [loadVar, go_sem, h0, h1, h2, h3]
theorem load_time {w : World} {B : Nat} {a b x d : Int} (h : Cells4 25 w B a b x d) : (loadVar 25 ⟨B, 0, none⟩).run Tryd.prog w = .ok (.agg #[.int .i64 a, .int .i64 b, .int .i64 x, .int .i64 d]) w := by
  obtain ⟨h0, h1, h2, h3, _⟩ := h.box
  simp [loadVar, go_sem, h0, h1, h2, h3]
theorem DE.trans {w0 w1 w2 : World} {g c k k' : Nat} {A : Option Addr} {L : List Int} (h : DE w0 g c A L k w1) (h' : DE w1 g c A L k' w2) : DE w0 g c A L k' w2 := ⟨h'.d, h.p.trans h'.p h.p.size⟩
theorem DE.toBelow {w0 w1 : World} {g c k B : Nat} {A : Option Addr} {L : List Int} (h : DE w0 g c A L k w1) (h1 : B ≤ w0.heap.size) (h2 : B ≤ g) : Below B w0 w1 := h.p.toBelow h1 h2

/-- A grid as it is made. -/
def MadeG (d s b m : Int) : Prop := (1 ≤ d ∧ d ≤ 5) ∧ (2 ≤ s ∧ s ≤ 8) ∧ (480 ≤ b ∧ b ≤ 585) ∧ (30 ≤ m ∧ m ≤ 60)
/-- What a function that makes a struct of four numbers hands back. -/
def FourP (ok : Int → Int → Int → Int → Prop) (g c : Nat) (A : Option Addr) (L : List Int) (w0 : World) (e : Ending) (w' : World) : Prop :=
  ∃ a b x d k', e = .returned (.agg #[.int .i64 a, .int .i64 b, .int .i64 x, .int .i64 d]) ∧ ok a b x d ∧ DE w0 g c A L k' w'
/-- A block of the call's own, and the dice. -/
structure R1 (T : TypeId) (w0 : World) (g c : Nat) (A : Option Addr) (L : List Int) (k : Nat) (w : World) : Prop where
  e : DE w0 g c A L k w
  r : Cells4 T w w0.heap.size 0 0 0 0
  g0 : g < w0.heap.size
theorem R1.roll {T : TypeId} {w0 w w' : World} {g c k k' : Nat} {A : Option Addr} {L : List Int} (h : R1 T w0 g c A L k w) (hd : DiceAt w' g A L c k') (hr : Rolled g w w') : R1 T w0 g c A L k' w' :=
  ⟨h.e.next hd hr, h.r.roll hr (by have := h.g0; omega), h.g0⟩
theorem R1.first {w : World} {g c k : Nat} {A : Option Addr} {L : List Int} (h : DiceAt w g A L c k) (T : TypeId) : R1 T w g c A L k (w.alloc (.cells #[.int .i64 0, .int .i64 0, .int .i64 0, .int .i64 0] T)) :=
  ⟨(DE.first h).alloc _, Cells4.new w 0 0 0 0 T, h.lt⟩
set_option maxHeartbeats 4000000 in
set_option maxRecDepth 100000 in
theorem grid_any (g c k : Nat) (A : Option Addr) (L : List Int) (w : World) (h : DiceAt w g A L c k) : Calls Tryd.prog 22 #[.pointer (some ⟨g, 0, none⟩)] w (FourP MadeG g c A L w) := by
  have HN := hid (fun (W : World) k n hn (h : DiceAt W g A L c k) => next_at g c k A L n hn W h)
  have HR := hid (R1.first h 23)
  clear h
  go_enter Tryd.func22, Tryd.ntmps22
  go_wp2_with fail
  generalize w.alloc (.cells #[.int .i64 0, .int .i64 0, .int .i64 0, .int .i64 0] 23) = w1 at HR ⊢
  refine (HN.out _ _ _ (by omega) HR.out.e.d).mono ?_
  rintro e w2 ⟨rfl, hd, hR⟩
  obtain ⟨r1, hr1⟩ : ∃ r, rollV L k 5 = r := ⟨_, rfl⟩
  have q1 := rollV_range L k 5 (by omega)
  rw [hr1] at q1 ⊢
  have HR2 := hid (HR.out.roll hd hR)
  generalize rollK L k = k1 at HR2
  clear hr1 hd hR HR
  go_wp2_with fail
  refine (HN.out _ _ _ (by omega) HR2.out.e.d).mono ?_
  rintro e w3 ⟨rfl, hd, hR⟩
  obtain ⟨r2, hr2⟩ : ∃ r, rollV L k1 7 = r := ⟨_, rfl⟩
  have q2 := rollV_range L k1 7 (by omega)
  rw [hr2] at q2 ⊢
  have HR3 := hid (HR2.out.roll hd hR)
  generalize rollK L k1 = k2 at HR3
  clear hr2 hd hR HR2
  go_wp2_with fail
  refine (HN.out _ _ _ (by omega) HR3.out.e.d).mono ?_
  rintro e w4 ⟨rfl, hd, hR⟩
  obtain ⟨r3, hr3⟩ : ∃ r, rollV L k2 8 = r := ⟨_, rfl⟩
  have q3 := rollV_range L k2 8 (by omega)
  rw [hr3] at q3 ⊢
  have HR4 := hid (HR3.out.roll hd hR)
  generalize rollK L k2 = k3 at HR4
  clear hr3 hd hR HR3
  have v3 : IntKind.i64.wrap (15 * r3) = 15 * r3 := IntWalk.i64_in _ (by omega)
  have v3' : IntKind.i64.wrap (480 + 15 * r3) = 480 + 15 * r3 := IntWalk.i64_in _ (by clear v3; omega)
  go_wp2_with fail
  refine (HN.out _ _ _ (by omega) HR4.out.e.d).mono ?_
  rintro e w5 ⟨rfl, hd, hR⟩
  obtain ⟨r4, hr4⟩ : ∃ r, rollV L k3 3 = r := ⟨_, rfl⟩
  have q4 := rollV_range L k3 3 (by omega)
  rw [hr4] at q4 ⊢
  have HR5 := hid (HR4.out.roll hd hR)
  generalize rollK L k3 = k4 at HR5
  clear hr4 hd hR HR4
  have v4 : IntKind.i64.wrap (15 * r4) = 15 * r4 := IntWalk.i64_in _ (by clear v3 v3'; omega)
  have v4' : IntKind.i64.wrap (30 + 15 * r4) = 30 + 15 * r4 := IntWalk.i64_in _ (by clear v3 v3' v4; omega)
  obtain ⟨x0, x1, x2, x3, _⟩ := HR5.out.r.box
  have f0 := HR5.out.r.free 0
  have f1 := HR5.out.r.free 1
  have f2 := HR5.out.r.free 2
  have f3 := HR5.out.r.free 3
  have hg := HR5.out.g0
  go_wp2_with fail
  refine bodyPost_ret (v := .agg #[.int .i64 (1 + r1), .int .i64 (2 + r2), .int .i64 (480 + 15 * r3), .int .i64 (30 + 15 * r4)]) (results_c rfl _ _ _ ⟨w.heap.size, 0, none⟩ _ rfl (load_grid (HR5.out.r.all _ _ _ _))) rfl ?_
  exact ⟨_, _, _, _, _, rfl, ⟨by omega, by omega, by clear v3 v3' v4 v4'; omega, by clear v3 v3' v4 v4'; omega⟩, (((HR5.out.e.set _ _ _ (Nat.le_refl _) hg).set _ _ _ (Nat.le_refl _) hg).set _ _ _ (Nat.le_refl _) hg).set _ _ _ (Nat.le_refl _) hg⟩
end Go.Proofs.YtibbiddadkinhaaDoor

set_option linter.unusedVariables false
namespace Go.Proofs.YtibbiddadkinhaaDoor
open Go Go.Proofs Go.RowKit Go.Lib

theorem castL_get (l : List Nat) (j : Nat) (v : Nat) (h : l[j]? = some v) : (castL l)[j]? = some (v : Int) := by
  unfold castL
  rw [List.getElem?_map, h]
  rfl
theorem IntsIn.cell {w : World} {B : Nat} {A : Option Addr} {l : List Nat} (h : IntsIn w B A (castL l)) (hne : l ≠ []) : ∃ b off, A = some ⟨b, off, none⟩ ∧ ∀ j v, l[j]? = some v → w.cell? ⟨b, off + j, none⟩ = some (.int .i64 ((v : Nat) : Int)) := by
  rcases h with h | ⟨b, off, hA, hB, hc⟩
  · exact absurd (by unfold castL at h; simpa using h) hne
  · exact ⟨b, off, hA, fun j v hv => hc j _ (castL_get l j v hv)⟩

set_option maxHeartbeats 4000000 in
set_option maxRecDepth 100000 in
theorem runAhead_any (a : Nat) (r : List Nat) (A : Option Addr) (c B : Nat) (hl : r.length ≤ 20) (ha : a ≤ 100) (w : World) (h : IntsIn w B A (castL (a :: r))) :
    Calls Tryd.prog 53 #[.slice A (r.length + 1) c] w fun e w' => e = .returned (.int .i64 ((cnt a r + 1 : Nat) : Int)) ∧ ∃ q, w' = w.drewN q := by
  obtain ⟨b, off, rfl, hc⟩ := h.cell (by simp)
  have c0 := hc 0 a rfl
  rw [Nat.add_zero] at c0
  have hle := cnt_le r a
  obtain ⟨C, hC⟩ : ∃ C, cnt a r = C := ⟨_, rfl⟩
  have hget := cnt_get r a
  have hend := cnt_end r a
  rw [hC] at hget hend hle ⊢
  have HC := hid hc
  have HG := hid hget
  have HE := hid hend
  clear hc hget hend hC h
  go_enter Tryd.func53, Tryd.ntmps53
  go_wp2
  go_loopw [3] (fun iv wr => ∃ m : Nat, iv = .int .i64 ((m : Int) + 1) ∧ m ≤ C ∧ ∃ q, wr = w.drewN q) (fun iv _ => C + 1 - (RowKit.intOf iv).toNat)
  case atStart => exact ⟨0, rfl, by omega, 0, rfl⟩
  case round =>
    obtain ⟨m, rfl, hm, q, rfl⟩ := hrel
    by_cases hlt : m < r.length
    · have hltz : (m : Int) + 1 < (r.length : Int) + 1 := by omega
      have hltz2 : (m : Int) < (r.length : Int) := by omega
      obtain ⟨x, hx⟩ : ∃ x, r[m]? = some x := ⟨r[m], List.getElem?_eq_getElem hlt⟩
      have cm := HC.out (m + 1) x (by rw [List.getElem?_cons_succ]; exact hx)
      have hsum : IntKind.i64.wrap ((a : Int) + ((m : Int) + 1)) = (a : Int) + ((m : Int) + 1) := IntWalk.i64_in _ (by omega)
      by_cases hmc : m < C
      · have hxe := HG.out m hmc
        rw [hx] at hxe
        injection hxe with hxe
        have hb : ((x : Int) == (a : Int) + ((m : Int) + 1)) = true := by simp; omega
        clear hx hxe
        go_wp2
        go_quiet (fail)
        go_wp2
        go_roundw
        case rel => exact ⟨m + 1, by simp, by omega, _, rfl⟩
        case measure => simp [RowKit.intOf]; omega
      · obtain rfl : m = C := by omega
        have hb : ((x : Int) == (a : Int) + ((m : Int) + 1)) = false := by
          rw [beq_eq_false_iff_ne]
          intro e
          apply HE.out
          rw [hx]
          congr 1
          omega
        clear hx
        go_wp2
        go_quiet (fail)
        go_wp2
        go_ret
        exact ⟨by simp, _, World.drewN_drewN _ _ _⟩
    · have hltz : ¬ (m : Int) + 1 < (r.length : Int) + 1 := by omega
      have hltz2 : ¬ (m : Int) < (r.length : Int) := by omega
      obtain rfl : m = C := by omega
      go_wp2
      go_quiet (fail)
      go_wp2
      go_ret
      exact ⟨by simp, _, World.drewN_drewN _ _ _⟩

theorem app_ba (a b : Str) : ba a ++ ba b = ba (a ++ b) := by
  apply ByteArray.ext
  simp [ba]
theorem add_ba (x y : Str) (h : x.length + y.length ≤ 9223372036854775807) : ∀ w, (Op.stringOp .add (ba x) (ba y)).run Tryd.prog w = .ok (.string (ba (x ++ y))) w := fun w => by
  rw [run_string_add_sum (w := w) _ _ (by rw [ba_size, ba_size]; exact h), app_ba]
set_option maxHeartbeats 2000000 in
theorem writeItem_any (a b : Nat) (ha : a < 100) (hb : b < 100) (w : World) : Calls Tryd.prog 41 #[.int .i64 (a : Int), .int .i64 (b : Int)] w fun e w' => e = .returned (.string (ba (itemT a b))) ∧ w' = w := by
  have cA := fun w => Tryd.strconv_Itoa_small a ha w
  have cB := fun w => Tryd.strconv_Itoa_small b hb w
  rw [dec_dec2 a ha] at cA
  rw [dec_dec2 b hb] at cB
  rw [show (⟨(dec2 a).toArray⟩ : ByteArray) = ba (dec2 a) from rfl] at cA
  rw [show (⟨(dec2 b).toArray⟩ : ByteArray) = ba (dec2 b) from rfl] at cB
  by_cases he : a = b
  · subst he
    have e : itemT a a = dec2 a := if_pos rfl
    rw [e]
    have hz : ((a : Int) == (a : Int)) = true := by simp
    go_enter Tryd.func41, Tryd.ntmps41
    go_wp2_with fail
    refine (cA _).mono ?_
    rintro e w' ⟨rfl, rfl⟩
    go_wp2
    go_ret
    exact ⟨rfl, rfl⟩
  · have e : itemT a b = dec2 a ++ 45 :: dec2 b := if_neg he
    rw [e]
    have hz : ((a : Int) == (b : Int)) = false := by simp; omega
    have l1 := dec2_len a
    have l2 := dec2_len b
    have s1 := add_ba (dec2 a) [45] (by rw [List.length_singleton]; omega)
    have s2 := add_ba (dec2 a ++ [45]) (dec2 b) (by rw [List.length_append, List.length_singleton]; omega)
    rw [List.append_assoc, List.singleton_append] at s2
    rw [show ba [45] = (⟨#[45]⟩ : ByteArray) from rfl] at s1
    clear e he
    go_enter Tryd.func41, Tryd.ntmps41
    go_wp2_with fail
    refine (cA _).mono ?_
    rintro e w1 ⟨rfl, rfl⟩
    go_wp2_with fail
    refine (cB _).mono ?_
    rintro e w1 ⟨rfl, rfl⟩
    go_wp2
    go_ret
    exact ⟨rfl, rfl⟩

end Go.Proofs.YtibbiddadkinhaaDoor

set_option linter.unusedVariables false
namespace Go.Proofs.YtibbiddadkinhaaDoor
open Go Go.Proofs Go.RowKit Go.Lib

def FormOut (r : Str × Int) (w : World) (e : Ending) (w' : World) : Prop := e = .returned (.tuple #[.string (ba r.1), .int .i64 r.2]) ∧ Below w.heap.size w w'
theorem valid_nat {S N : Int} (h : validM S N = true) : ∃ s n : Nat, S = (s : Int) ∧ N = (n : Int) ∧ 1 ≤ n ∧ n ≤ 20 ∧ 1 ≤ s ∧ s < 2 ^ n := by
  have h := of_decide_eq_true h
  obtain ⟨n, rfl⟩ := natN (show 0 ≤ N by omega)
  obtain ⟨s, rfl⟩ := natN (show 0 ≤ S by omega)
  rw [Int.toNat_natCast] at h
  have e : (2 : Int) ^ n = ((2 ^ n : Nat) : Int) := by rw [Int.natCast_pow]; rfl
  exact ⟨s, n, rfl, rfl, by omega, by omega, by omega, by omega⟩
theorem formM_yes {s n : Nat} (h : validM (s : Int) (n : Int) = true) : formM (s : Int) (n : Int) = (formN s n, 0) := by
  unfold formM
  rw [if_pos h, Int.toNat_natCast, Int.toNat_natCast]
end Go.Proofs.YtibbiddadkinhaaDoor

