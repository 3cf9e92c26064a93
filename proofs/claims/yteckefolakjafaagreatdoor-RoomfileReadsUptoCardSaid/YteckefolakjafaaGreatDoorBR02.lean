/-
  Strings as lists of bytes, cut at a byte; lists of strings in memory. No program beyond the types' facts, no conditions.
  Sets of weeks: plain mathematics. No program, no conditions.
  isLength, span, Valid: the program's and the specification's. Conditions: span's arguments are from 1 to 21 and from 0 to 20.
  Valid: the program's and the specification's. Conditions: none.
-/
import Derived.Test.YteckefolakjafaaGreatDoorBR01
import Derived.Lib.IndexLaws
import Derived.Lib.ItoaNum
import Derived.Lib.Atoi
import Derived.Laws.BitsAllLaws
import Derived.Laws.BitsLemmas
import Derived.BigQuiet
set_option linter.unusedVariables false
namespace Go.Proofs.YteckefolakjafaaGreatDoor
open Go Go.Proofs Go.RowKit Go.Lib

abbrev Str := List UInt8
abbrev lst (s : ByteArray) : Str := s.data.toList
def ba (s : Str) : ByteArray := ⟨s.toArray⟩
theorem ba_lst (s : ByteArray) : ba (lst s) = s := by cases s; rfl
theorem lst_ba (l : Str) : lst (ba l) = l := rfl
theorem lst_extract (s : ByteArray) (a b : Nat) : lst (s.extract a b) = ((lst s).take b).drop a := by
  simp [lst, ByteArray.data_extract, List.extract_eq_take_drop, List.drop_take]
theorem str_no {s : ByteArray} (h : 0 < s.size) : (s.toList == []) = false ∧ (!s.toList.isEmpty) = true ∧ (s.toList != []) = true ∧ ¬ s.toList = [] := by
  have hne : s.toList ≠ [] := fun e => by
    rw [Lib.toList_data] at e
    rw [Lib.size_eq, e] at h
    simp at h
  refine ⟨by simpa using hne, by simpa using hne, by simpa using hne, hne⟩
theorem str_yes {s : ByteArray} (h : ¬ 0 < s.size) : (s.toList == []) = true ∧ (!s.toList.isEmpty) = false ∧ (s.toList != []) = false ∧ s.toList = [] := by
  have e : s.toList = [] := by
    rw [Lib.toList_data]
    exact List.eq_nil_of_length_eq_zero (by rw [← Lib.size_eq]; omega)
  refine ⟨by simpa using e, by simp [e], by simp [e], e⟩
theorem lst_ne {s : ByteArray} (h : 0 < s.size) : lst s ≠ [] := fun e => by
  have h' : 0 < (lst s).length := by rw [← Lib.size_eq]; exact h
  rw [e] at h'
  simp at h'
theorem lst_nil {s : ByteArray} (h : ¬ 0 < s.size) : lst s = [] := List.eq_nil_of_length_eq_zero (by rw [← Lib.size_eq]; omega)

/-! ### cutting at a byte -/
def bef (c : UInt8) : Str → Str
  | [] => []
  | x :: r => if x = c then [] else x :: bef c r
def aft (c : UInt8) : Str → Str
  | [] => []
  | x :: r => if x = c then r else aft c r
def has (c : UInt8) : Str → Bool
  | [] => false
  | x :: r => x == c || has c r
theorem bef_le (c : UInt8) : ∀ s, (bef c s).length ≤ s.length
  | [] => Nat.le_refl _
  | x :: r => by
    unfold bef
    have := bef_le c r
    split <;> simp <;> omega
theorem bef_miss (c : UInt8) : ∀ s, has c s = false → bef c s = s ∧ aft c s = []
  | [], _ => ⟨rfl, rfl⟩
  | x :: r, h => by
    simp [has] at h
    have := bef_miss c r h.2
    simp [bef, aft, h.1, this.1, this.2]
theorem bef_hit (c : UInt8) : ∀ s, has c s = true → s = bef c s ++ c :: aft c s
  | [], h => by simp [has] at h
  | x :: r, h => by
    by_cases e : x = c
    · simp [bef, aft, e]
    · have h' : has c r = true := by simpa [has, e] using h
      simp only [bef, aft, if_neg e, List.cons_append]
      rw [← bef_hit c r h']
theorem bef_at (c : UInt8) (s : Str) (h : has c s = true) : s[(bef c s).length]? = some c := by
  have h0 := bef_hit c s h
  generalize bef c s = p at h0 ⊢
  rw [h0, List.getElem?_append_right (Nat.le_refl _)]
  simp
theorem bef_take (c : UInt8) (s : Str) : s.take (bef c s).length = bef c s := by
  cases hc : has c s with
  | true =>
    have h0 := bef_hit c s hc
    generalize bef c s = p at h0 ⊢
    rw [h0]
    simp
  | false => rw [(bef_miss c s hc).1, List.take_of_length_le (Nat.le_refl _)]
theorem aft_drop (c : UInt8) (s : Str) (h : has c s = true) : s.drop ((bef c s).length + 1) = aft c s := by
  have h0 := bef_hit c s h
  generalize bef c s = p at h0 ⊢
  generalize aft c s = q at h0 ⊢
  rw [h0]
  simp
theorem bef_not (c : UInt8) : ∀ s x, x ∈ bef c s → x ≠ c
  | [], x, h => by simp [bef] at h
  | y :: r, x, h => by
    unfold bef at h
    split at h
    · simp at h
    · rename_i hy
      rcases List.mem_cons.1 h with h | h
      · subst h; exact hy
      · exact bef_not c r x h
theorem indexByte_bef (c : UInt8) : ∀ s, Lib.indexByte s c = if has c s = true then ((bef c s).length : Int) else -1
  | [] => rfl
  | x :: r => by
    have ih := indexByte_bef c r
    unfold Lib.indexByte
    by_cases e : x = c
    · simp [e, has, bef]
    · have e' : (x == c) = false := by simpa using e
      simp only [e', has, bef, if_neg e, Bool.false_or, Bool.false_eq_true, if_false]
      rw [ih]
      by_cases hh : has c r = true
      · rw [if_pos hh, if_pos hh]
        rw [if_neg (by simp)]
        simp
      · rw [if_neg hh, if_neg hh]
        rfl

theorem has_app (c : UInt8) : ∀ s t, has c (s ++ t) = (has c s || has c t)
  | [], t => by simp [has]
  | x :: s, t => by simp [has, has_app c s t, Bool.or_assoc]
theorem bef_app (c : UInt8) : ∀ s t, has c s = false → bef c (s ++ t) = s ++ bef c t
  | [], t, _ => rfl
  | x :: s, t, h => by
    simp [has] at h
    simp only [List.cons_append, bef, if_neg h.1]
    rw [bef_app c s t h.2]

def strV (s : Str) : Value := .string ⟨s.toArray⟩
/-- The slice at A holds the strings l, in a block with P. -/
def StrsIn (w : World) (P : Nat → Prop) (A : Option Addr) (l : List Str) : Prop :=
  l = [] ∨ ∃ b off, A = some ⟨b, off, none⟩ ∧ P b ∧ ∀ (j : Nat) (s : Str), l[j]? = some s → w.cell? ⟨b, off + j, none⟩ = some (strV s)
theorem StrsIn.kept {w w' : World} {P : Nat → Prop} {A : Option Addr} {l : List Str} (h : StrsIn w P A l) (hk : ∀ b, P b → w'.heap[b]? = w.heap[b]?) : StrsIn w' P A l := by
  rcases h with h | ⟨b, off, hA, hP, hc⟩
  · exact .inl h
  · exact .inr ⟨b, off, hA, hP, fun j s hj => (World.cell?_of_block (w := w) (hk b hP)).trans (hc j s hj)⟩
theorem StrsIn.mono {w : World} {P P' : Nat → Prop} {A : Option Addr} {l : List Str} (h : StrsIn w P A l) (hP : ∀ b, P b → P' b) : StrsIn w P' A l := by
  rcases h with h | ⟨b, off, hA, hb, hc⟩
  · exact .inl h
  · exact .inr ⟨b, off, hA, hP b hb, hc⟩
theorem StrsIn.at_ {w : World} {P : Nat → Prop} {A : Option Addr} {l : List Str} (h : StrsIn w P A l) {k : Nat} (hk : k < l.length) :
    ∃ b off, A = some ⟨b, off, none⟩ ∧ P b ∧ w.cell? ⟨b, off + k, none⟩ = some (strV l[k]) := by
  rcases h with h | ⟨b, off, hA, hP, hc⟩
  · subst h; simp at hk
  · exact ⟨b, off, hA, hP, hc k _ (List.getElem?_eq_getElem hk)⟩

theorem infoStr : (Tryz.prog.info? 9).map (fun i => (i.zero, i.size, i.bytes)) = some (some (.string ⟨#[]⟩), 1, 16) := by kernel_rfl
def strVals (l : List Str) : List Value := l.map strV
theorem strVals_len (l : List Str) : (strVals l).length = l.length := by simp [strVals]
theorem strVals_app (a b : List Str) : strVals (a ++ b) = strVals a ++ strVals b := by simp [strVals]
/-- A row of strings that the call owns. -/
def StrRow (w : World) (B : Nat) (v : Value) (l : List Str) : Prop := w.ownsRow B 9 1 v l.length (strVals l)
theorem StrRow.strsIn {w : World} {B : Nat} {v : Value} {l : List Str} (h : StrRow w B v l) : ∃ A c, v = .slice A l.length c ∧ l.length ≤ c ∧ c ≤ 9223372036854775807 ∧ StrsIn w (fun b => B ≤ b ∧ b < w.heap.size) A l := by
  have h' := h
  rcases h.2 with ⟨hv, h0⟩ | ⟨g, cap, cur, hv, hB, hg, h1, h2, _⟩
  · have hl : l = [] := List.eq_nil_of_length_eq_zero h0
    subst hl
    exact ⟨none, 0, hv, Nat.le_refl _, by omega, .inl rfl⟩
  · refine ⟨_, cap, hv, h1, by unfold maxLen at h2; omega, .inr ⟨g, 0, rfl, ⟨hB, (Array.getElem?_eq_some_iff.1 hg).1⟩, fun j s hj => ?_⟩⟩
    have := World.ownsRow.cells h' (g := g) (by rw [hv]; rfl) j (strV s) (by unfold strVals; rw [List.getElem?_map, hj]; rfl)
    rwa [Addr.add_lit] at this
theorem StrRow.mono {w : World} {B B' : Nat} {v : Value} {l : List Str} (h : StrRow w B v l) (hB : B' ≤ B) : StrRow w B' v l := by
  obtain ⟨h1, h2⟩ := h
  refine ⟨h1, ?_⟩
  rcases h2 with h2 | ⟨g, cap, cur, hv, hg, r⟩
  · exact .inl h2
  · exact .inr ⟨g, cap, cur, hv, by omega, r⟩
theorem StrRow.played {B F g : Nat} {a w : World} {v : Value} {l : List Str} (hr : StrRow a B v l) (h : Played F g a w) (hg : g < B) (hF : a.heap.size ≤ F) : StrRow w B v l :=
  h.row hr (fun k hk => by have := hr.lt k hk; omega)
theorem StrRow.rolled {B g : Nat} {a w : World} {v : Value} {l : List Str} (hr : StrRow a B v l) (h : Rolled g a w) (hg : g < B) : StrRow w B v l :=
  h.row hr (fun e => by have := hr.lt g e; omega)
theorem StrRow.one {B : Nat} {w : World} {v : Value} {l : List Str} (hr : StrRow w B v l) : ∀ u ∈ [v], u.oneCell' = true := by
  intro u hu
  simp at hu
  subst hu
  rcases hr.2 with ⟨h, _⟩ | ⟨g, cap, cur, h, _⟩ <;> rw [h] <;> rfl
theorem one_str (s : ByteArray) : ∀ u ∈ [Value.string s], u.oneCell' = true := by
  intro u hu
  simp at hu
  subst hu
  rfl


end Go.Proofs.YteckefolakjafaaGreatDoor

set_option linter.unusedVariables false
namespace Go.Proofs.YteckefolakjafaaGreatDoor
open Go Go.Lib

/-! ### bits -/
def bitB (s k : Nat) : Bool := decide (s / 2 ^ k % 2 = 1)
theorem bitB_test (s k : Nat) : bitB s k = s.testBit k := by unfold bitB; rw [Nat.testBit_eq_decide_div_mod_eq]
theorem bitB_top {s n k : Nat} (hs : s < 2 ^ n) (hk : n ≤ k) : bitB s k = false := by
  rw [bitB_test]
  exact Nat.testBit_lt_two_pow (Nat.lt_of_lt_of_le hs (Nat.pow_le_pow_right (by omega) hk))
/-- The weeks of a set among the first k. -/
def weeksP (s : Nat) : Nat → List Nat
  | 0 => []
  | k + 1 => if bitB s k = true then weeksP s k ++ [k + 1] else weeksP s k
theorem weeksP_yes {s k : Nat} (h : bitB s k = true) : weeksP s (k + 1) = weeksP s k ++ [k + 1] := if_pos h
theorem weeksP_no {s k : Nat} (h : bitB s k = false) : weeksP s (k + 1) = weeksP s k := if_neg (by rw [h]; simp)
theorem weeksP_top {s n : Nat} (hs : s < 2 ^ n) : ∀ j, weeksP s (n + j) = weeksP s n
  | 0 => rfl
  | j + 1 => by
    show weeksP s ((n + j) + 1) = _
    rw [weeksP_no (bitB_top hs (by omega)), weeksP_top hs j]
theorem weeksP_len (s : Nat) : ∀ k, (weeksP s k).length ≤ k
  | 0 => Nat.le_refl _
  | k + 1 => by
    have := weeksP_len s k
    unfold weeksP
    split
    · simp; omega
    · omega
theorem mem_weeksP (s : Nat) : ∀ k w, w ∈ weeksP s k ↔ 1 ≤ w ∧ w ≤ k ∧ bitB s (w - 1) = true
  | 0, w => by simp [weeksP]; omega
  | k + 1, w => by
    have ih := mem_weeksP s k w
    cases h : bitB s k with
    | true =>
      rw [weeksP_yes h, List.mem_append, ih]
      simp only [List.mem_singleton]
      constructor
      · rintro (⟨a, b, c⟩ | rfl)
        · exact ⟨a, by omega, c⟩
        · exact ⟨by omega, by omega, h⟩
      · rintro ⟨a, b, c⟩
        rcases Nat.lt_or_ge k w with hw | hw
        · exact .inr (by omega)
        · exact .inl ⟨a, hw, c⟩
    | false =>
      rw [weeksP_no h, ih]
      constructor
      · rintro ⟨a, b, c⟩
        exact ⟨a, by omega, c⟩
      · rintro ⟨a, b, c⟩
        refine ⟨a, ?_, c⟩
        rcases Nat.lt_or_ge k w with hw | hw
        · obtain rfl : w = k + 1 := by omega
          rw [Nat.add_sub_cancel, h] at c
          simp at c
        · exact hw
def castL (l : List Nat) : List Int := l.map fun (n : Nat) => (n : Int)
theorem castL_app (a b : List Nat) : castL (a ++ b) = castL a ++ castL b := by simp [castL]
theorem castL_len (a : List Nat) : (castL a).length = a.length := by simp [castL]
def setOk (S : Int) : Bool := decide (1 ≤ S ∧ S < 1048576)
/-- What Weeks hands back. -/
def weeksM (S : Int) : List Int := if setOk S = true then castL (weeksP S.toNat 20) else []

/-! ### named sets, spans -/
def inB (k n w : Nat) : Bool :=
  match k with
  | 0 => true
  | 1 => decide (w % 2 = 1)
  | 2 => decide (w % 2 = 0)
  | 3 => decide (w ≤ (n + 1) / 2)
  | _ => decide ((n + 1) / 2 < w)
def nmP (k n : Nat) : Nat → Nat
  | 0 => 0
  | w + 1 => if inB k n (w + 1) = true then nmP k n w + 2 ^ w else nmP k n w
def nmM (k n : Nat) : Nat := nmP k n n
theorem nmP_yes {k n w : Nat} (h : inB k n (w + 1) = true) : nmP k n (w + 1) = nmP k n w + 2 ^ w := if_pos h
theorem nmP_no {k n w : Nat} (h : inB k n (w + 1) = false) : nmP k n (w + 1) = nmP k n w := if_neg (by rw [h]; simp)
theorem nmP_lt (k n : Nat) : ∀ w, nmP k n w < 2 ^ w
  | 0 => by simp [nmP]
  | w + 1 => by
    have := nmP_lt k n w
    rw [Nat.pow_succ]
    unfold nmP
    split <;> omega
def spanN (a b : Nat) : Nat := 2 ^ b - 2 ^ (a - 1)
theorem pow_le {a b : Nat} (h : a ≤ b) : 2 ^ a ≤ 2 ^ b := Nat.pow_le_pow_right (by omega) h
theorem spanN_lt (a b : Nat) : spanN a b < 2 ^ b := by
  have := Nat.two_pow_pos (a - 1)
  have := Nat.two_pow_pos b
  unfold spanN
  omega
theorem or_top {a i : Nat} (h : a < 2 ^ i) : a ||| 2 ^ i = a + 2 ^ i := by
  have := Nat.two_pow_add_eq_or_of_lt h 1
  rw [Nat.mul_one] at this
  rw [Nat.or_comm, ← this, Nat.add_comm]
theorem span_bit {a b : Nat} (h1 : 1 ≤ a) (hab : a ≤ b + 1) (i : Nat) : (spanN a b).testBit i = decide (a ≤ i + 1 ∧ i < b) := by
  obtain ⟨c, rfl⟩ : ∃ c, a = c + 1 := ⟨a - 1, by omega⟩
  obtain ⟨d, rfl⟩ : ∃ d, b = c + d := ⟨b - c, by omega⟩
  have e : spanN (c + 1) (c + d) = 2 ^ c * (2 ^ d - 1) := by
    unfold spanN
    rw [Nat.add_sub_cancel, Nat.pow_add, Nat.mul_sub_one]
  rw [e, Nat.testBit_two_pow_mul, Nat.testBit_two_pow_sub_one]
  rw [← Bool.decide_and]
  apply decide_eq_decide.2
  omega

/-! ### items -/
def wordS : Nat → Str
  | 0 => [97, 108, 108]
  | 1 => [111, 100, 100]
  | 2 => [101, 118, 101, 110]
  | 3 => [102, 105, 114, 115, 116]
  | _ => [115, 101, 99, 111, 110, 100]
def kindOf (x : Str) : Option Nat := (List.range 5).find? fun k => decide (wordS k = x)
/-- A number of one or two digits; 0 for others. -/
def smallN : Str → Nat
  | [a] => if 49 ≤ a.toNat ∧ a.toNat ≤ 57 then a.toNat - 48 else 0
  | [a, b] => if (49 ≤ a.toNat ∧ a.toNat ≤ 57) ∧ 48 ≤ b.toNat ∧ b.toNat ≤ 57 then 10 * (a.toNat - 48) + (b.toNat - 48) else 0
  | _ => 0
theorem smallN_lt (s : Str) : smallN s < 100 := by
  unfold smallN
  split
  · split <;> omega
  · split <;> omega
  · omega
def fromN (x : Str) : Nat := smallN (bef 45 x)
def toN (x : Str) : Nat := if has 45 x = true then smallN (aft 45 x) else smallN (bef 45 x)
def numM (x : Str) (n : Nat) : Nat × Int :=
  if fromN x = 0 ∨ toN x = 0 then (0, 4) else if toN x < fromN x ∨ n < toN x then (0, 3) else (spanN (fromN x) (toN x), 0)
/-- What an item means, or its error. -/
def itemM (x : Str) (n : Nat) : Nat × Int :=
  match kindOf x with
  | some k => (nmM k n, 0)
  | none => numM x n
theorem item_lt (x : Str) (n : Nat) : (itemM x n).1 < 2 ^ n := by
  have hp := Nat.two_pow_pos n
  unfold itemM
  split
  · exact nmP_lt _ _ _
  · unfold numM
    split
    · exact hp
    · split
      · exact hp
      · rename_i h
        exact Nat.lt_of_lt_of_le (spanN_lt _ _) (pow_le (by omega))
/-- The parts between the commas. -/
def splitL : Str → List Str
  | [] => [[]]
  | c :: s => if c = 44 then [] :: splitL s else (c :: (splitL s).headD []) :: (splitL s).tail
/-- The union of the items behind those that have come, or the first error. -/
def goP (n : Nat) : List Str → Nat → Nat × Int
  | [], acc => (acc, 0)
  | x :: xs, acc => if (itemM x n).2 ≠ 0 then (0, (itemM x n).2) else goP n xs (acc ||| (itemM x n).1)
theorem goP_ok {n : Nat} {x : Str} (h : (itemM x n).2 = 0) (xs : List Str) (acc : Nat) : goP n (x :: xs) acc = goP n xs (acc ||| (itemM x n).1) := if_neg (by rw [h]; simp)
theorem goP_err {n : Nat} {x : Str} (h : (itemM x n).2 ≠ 0) (xs : List Str) (acc : Nat) : goP n (x :: xs) acc = (0, (itemM x n).2) := if_pos h
theorem goP_lt (n : Nat) : ∀ xs acc, acc < 2 ^ n → (goP n xs acc).1 < 2 ^ n
  | [], acc, h => h
  | x :: xs, acc, h => by
    by_cases hx : (itemM x n).2 = 0
    · rw [goP_ok hx]
      exact goP_lt n xs _ (Nat.or_lt_two_pow h (item_lt x n))
    · rw [goP_err hx]
      exact Nat.two_pow_pos n
theorem goP_app (n : Nat) : ∀ xs ys acc, (goP n xs acc).2 = 0 → goP n (xs ++ ys) acc = goP n ys (goP n xs acc).1
  | [], ys, acc, _ => rfl
  | x :: xs, ys, acc, h => by
    rw [List.cons_append]
    by_cases hx : (itemM x n).2 = 0
    · rw [goP_ok hx] at h ⊢
      rw [goP_ok hx]
      exact goP_app n xs ys _ h
    · rw [goP_err hx] at h
      exact absurd h hx
/-- What Parse hands back. -/
def parseN (s : Str) (n : Nat) : Nat × Int := if (goP n (splitL s) 0).2 ≠ 0 then (0, (goP n (splitL s) 0).2) else if (goP n (splitL s) 0).1 = 0 then (0, 16) else ((goP n (splitL s) 0).1, 0)
def parseM (s : Str) (N : Int) : Nat × Int := if 1 ≤ N ∧ N ≤ 20 then parseN s N.toNat else (0, 3)

/-! ### runs -/
/-- How many of a list go on from a number. -/
def cnt : Nat → List Nat → Nat
  | _, [] => 0
  | a, b :: l => if b = a + 1 then cnt b l + 1 else 0
theorem cnt_le : ∀ (l : List Nat) (a : Nat), cnt a l ≤ l.length
  | [], _ => Nat.le_refl _
  | b :: l, a => by
    have := cnt_le l b
    unfold cnt
    split
    · simp; omega
    · omega
theorem cnt_get : ∀ (l : List Nat) (a j : Nat), j < cnt a l → l[j]? = some (a + 1 + j)
  | [], _, j, h => by simp [cnt] at h
  | b :: l, a, j, h => by
    unfold cnt at h
    split at h
    · rename_i hb
      cases j with
      | zero => simp [hb]
      | succ j =>
        rw [List.getElem?_cons_succ, cnt_get l b j (by omega), hb]
        congr 1
        omega
    · omega
theorem cnt_end : ∀ (l : List Nat) (a : Nat), l[cnt a l]? ≠ some (a + 1 + cnt a l)
  | [], a => by simp [cnt]
  | b :: l, a => by
    unfold cnt
    split
    · rename_i hb
      rw [List.getElem?_cons_succ]
      have := cnt_end l b
      rw [show a + 1 + (cnt b l + 1) = b + 1 + cnt b l by omega]
      exact this
    · rename_i hb
      simp only [List.getElem?_cons_zero, Nat.add_zero, ne_eq, Option.some.injEq]
      exact hb
def runs : List Nat → List (Nat × Nat)
  | [] => []
  | a :: l => (a, a + cnt a l) :: runs (l.drop (cnt a l))
termination_by l => l.length
decreasing_by simp; omega
theorem mem_runs : ∀ (k : Nat) (l : List Nat), l.length ≤ k → ∀ x, x ∈ l ↔ ∃ r ∈ runs l, r.1 ≤ x ∧ x ≤ r.2
  | 0, l, hl, x => by
    obtain rfl : l = [] := List.eq_nil_of_length_eq_zero (by omega)
    simp [runs]
  | k + 1, [], hl, x => by simp [runs]
  | k + 1, a :: l, hl, x => by
    have ih := mem_runs k (l.drop (cnt a l)) (by simp at hl ⊢; omega) x
    have hsp : l = l.take (cnt a l) ++ l.drop (cnt a l) := (List.take_append_drop _ _).symm
    have hle := cnt_le l a
    rw [runs]
    simp only [List.mem_cons, exists_eq_or_imp]
    rw [← ih]
    have htk : x ∈ l.take (cnt a l) ↔ a + 1 ≤ x ∧ x ≤ a + cnt a l := by
      rw [List.mem_iff_getElem?]
      constructor
      · rintro ⟨j, hj⟩
        rw [List.getElem?_take] at hj
        split at hj
        · rename_i hjc
          rw [cnt_get l a j hjc] at hj
          injection hj with hj
          omega
        · simp at hj
      · rintro ⟨h1, h2⟩
        refine ⟨x - (a + 1), ?_⟩
        rw [List.getElem?_take, if_pos (by omega), cnt_get l a _ (by omega)]
        congr 1
        omega
    conv => lhs; rw [hsp]
    rw [List.mem_append, htk]
    constructor
    · rintro (rfl | ⟨h1, h2⟩ | h)
      · exact .inl ⟨by omega, by omega⟩
      · exact .inl ⟨by omega, by omega⟩
      · exact .inr h
    · rintro (⟨h1, h2⟩ | h)
      · rcases Nat.lt_or_ge a x with h | h
        · exact .inr (.inl ⟨by omega, h2⟩)
        · exact .inl (by omega)
      · exact .inr (.inr h)
theorem runs_mem : ∀ (k : Nat) (l : List Nat), l.length ≤ k → ∀ r ∈ runs l, r.1 ∈ l ∧ r.1 ≤ r.2 ∧ r.2 ∈ l
  | 0, l, hl, r, h => by
    obtain rfl : l = [] := List.eq_nil_of_length_eq_zero (by omega)
    simp [runs] at h
  | k + 1, [], hl, r, h => by simp [runs] at h
  | k + 1, a :: l, hl, r, h => by
    rw [runs] at h
    rcases List.mem_cons.1 h with rfl | h
    · refine ⟨by simp, by simp, ?_⟩
      rcases Nat.eq_zero_or_pos (cnt a l) with h0 | h0
      · rw [h0]; simp
      · refine List.mem_cons_of_mem _ (List.mem_iff_getElem?.2 ⟨cnt a l - 1, ?_⟩)
        rw [cnt_get l a _ (by omega)]
        congr 1
        show _ = a + cnt a l
        omega
    · obtain ⟨h1, h2, h3⟩ := runs_mem k (l.drop (cnt a l)) (by simp at hl ⊢; omega) r h
      exact ⟨List.mem_cons_of_mem _ (List.mem_of_mem_drop h1), h2, List.mem_cons_of_mem _ (List.mem_of_mem_drop h3)⟩
/-- A number below 100 in decimal. -/
def dec2 (u : Nat) : Str := if u < 10 then [UInt8.ofNat (48 + u)] else [UInt8.ofNat (48 + u / 10), UInt8.ofNat (48 + u % 10)]
def itemT (a b : Nat) : Str := if a = b then dec2 a else dec2 a ++ 45 :: dec2 b
def joinC : List Str → Str
  | [] => []
  | [x] => x
  | x :: y :: l => x ++ 44 :: joinC (y :: l)
def textM (s : Nat) : Str := joinC ((runs (weeksP s 20)).map fun r => itemT r.1 r.2)
def nameK (s n : Nat) : Option Nat := (List.range 5).find? fun k => decide (nmM k n = s)
def validM (S N : Int) : Bool := decide ((1 ≤ N ∧ N ≤ 20) ∧ 1 ≤ S ∧ S < 2 ^ N.toNat)
/-- What Format hands back. -/
def formN (s n : Nat) : Str := match nameK s n with | some k => wordS k | none => textM s
def formM (S N : Int) : Str × Int := if validM S N = true then (formN S.toNat N.toNat, 0) else ([], 1)
end Go.Proofs.YteckefolakjafaaGreatDoor

set_option linter.unusedVariables false
namespace Go.Proofs.YteckefolakjafaaGreatDoor
open Go Go.Proofs Go.RowKit Go.Lib

def lenB (N : Int) : Bool := decide (1 ≤ N ∧ N ≤ 20)
set_option maxHeartbeats 1000000 in
theorem isLength_any (N : Int) (w : World) : Calls Tryz.prog 104 #[.int .i64 N] w fun e w' => e = .returned (.bool (lenB N)) ∧ w = w' := by
  unfold lenB
  by_cases h0 : 1 ≤ N
  · by_cases h1 : N ≤ 20
    · rw [decide_eq_true ⟨h0, h1⟩]
      go_enter Tryz.func104, Tryz.ntmps104
      go_wp2
      go_ret
      exact ⟨rfl, rfl⟩
    · rw [decide_eq_false (fun h => h1 h.2)]
      go_enter Tryz.func104, Tryz.ntmps104
      go_wp2
      go_ret
      exact ⟨rfl, rfl⟩
  · rw [decide_eq_false (fun h => h0 h.1)]
    go_enter Tryz.func104, Tryz.ntmps104
    go_wp2
    go_ret
    exact ⟨rfl, rfl⟩
theorem powI (b : Nat) (h : b ≤ 20) : (1 : Int) ≤ 2 ^ b ∧ (2 : Int) ^ b ≤ 1048576 := by
  have h1 : 2 ^ b ≤ 2 ^ 20 := pow_le h
  have h2 := Nat.two_pow_pos b
  have e : (2 : Int) ^ b = ((2 ^ b : Nat) : Int) := by rw [Int.natCast_pow]; rfl
  omega
theorem spanI (a b : Nat) (h : a ≤ b) : (2 : Int) ^ b - 2 ^ a = ((spanN (a + 1) b : Nat) : Int) := by
  have h1 := pow_le h
  have e : (2 : Int) ^ b = ((2 ^ b : Nat) : Int) := by rw [Int.natCast_pow]; rfl
  have e2 : (2 : Int) ^ a = ((2 ^ a : Nat) : Int) := by rw [Int.natCast_pow]; rfl
  unfold spanN
  rw [Nat.add_sub_cancel]
  omega
theorem ret_int {k : IntKind} {a b : Int} (h : a = b) : Ending.returned (.int k a) = .returned (.int k b) := by rw [h]
set_option maxHeartbeats 1000000 in
theorem span_any (a b : Nat) (hb : b ≤ 20) (hab : a ≤ b) (w : World) : Calls Tryz.prog 105 #[.int .i64 ((a : Int) + 1), .int .i64 (b : Int)] w fun e w' => e = .returned (.int .i64 ((spanN (a + 1) b : Nat) : Int)) ∧ ∃ n, w' = w.drewN n := by
  have hp := powI a (by omega)
  have hq := powI b hb
  have hs := spanI a b hab
  have e1 : IntKind.i64.wrap ((a : Int) + 1 - 1) = (a : Int) := by rw [Int.add_sub_cancel]; exact IntWalk.i64_in _ (by omega)
  have e2 : IntKind.i64.wrap ((2 : Int) ^ b - 2 ^ a) = (2 : Int) ^ b - 2 ^ a := IntWalk.i64_in _ (by omega)
  rw [← hs]
  clear hs
  go_enter Tryz.func105, Tryz.ntmps105
  go_wp2
  go_quiet (fail)
  go_wp2
  go_ret
  exact ⟨rfl, _, rfl⟩
end Go.Proofs.YteckefolakjafaaGreatDoor

set_option linter.unusedVariables false
namespace Go.Proofs.YteckefolakjafaaGreatDoor
open Go Go.Proofs Go.RowKit Go.Lib

theorem span1_any (n : Nat) (hn : n ≤ 20) (w : World) : Calls Tryz.prog 105 #[.int .i64 1, .int .i64 (n : Int)] w fun e w' => e = .returned (.int .i64 ((2 : Int) ^ n - 1)) ∧ ∃ q, w' = w.drewN q := by
  have h := span_any 0 n hn (Nat.zero_le _) w
  rw [← spanI 0 n (Nat.zero_le _)] at h
  exact h
theorem natN {N : Int} (h : 0 ≤ N) : ∃ n : Nat, N = (n : Int) := Int.eq_ofNat_of_zero_le h
theorem validM_no {S N : Int} (h : ¬ (1 ≤ N ∧ N ≤ 20)) : validM S N = false := decide_eq_false (fun k => h k.1)
theorem validM_low {S N : Int} (h : S < 1) : validM S N = false := decide_eq_false (fun k => by omega)
theorem validM_high {S : Int} {n : Nat} (h : 2 ^ n ≤ S) : validM S n = false := decide_eq_false (fun k => by
  have : (n : Int).toNat = n := Int.toNat_natCast n
  rw [this] at k
  omega)
theorem validM_yes {S : Int} {n : Nat} (h1 : 1 ≤ n) (h2 : n ≤ 20) (hs : 1 ≤ S) (h : S < 2 ^ n) : validM S n = true := decide_eq_true ⟨⟨by omega, by omega⟩, hs, by rw [Int.toNat_natCast]; exact h⟩

set_option maxHeartbeats 2000000 in
theorem valid_any (S N : Int) (w : World) : Calls Tryz.prog 79 #[.int .i64 S, .int .i64 N] w fun e w' => e = .returned (.bool (validM S N)) ∧ ∃ q, w' = w.drewN q := by
  have cL := isLength_any N
  by_cases hN : 1 ≤ N ∧ N ≤ 20
  · obtain ⟨n, rfl⟩ := natN (show 0 ≤ N by omega)
    rw [show lenB (n : Int) = true from decide_eq_true hN] at cL
    have cS := span1_any n (by omega)
    have hp := powI n (by omega)
    by_cases h1 : 1 ≤ S
    · by_cases h2 : S < 2 ^ n
      · rw [validM_yes (by omega) (by omega) h1 h2]
        have h3 : S ≤ 2 ^ n - 1 := by omega
        clear hN
        go_enter Tryz.func79, Tryz.ntmps79
        go_wp2_with (fail)
        first
          | (refine (cL _).mono ?_; rintro e w' ⟨rfl, rfl⟩)
          | skip
        go_wp2_with (fail)
        refine (cS _).mono ?_
        rintro e w' ⟨rfl, q, rfl⟩
        go_wp2
        go_ret
        exact ⟨rfl, q, rfl⟩
      · rw [validM_high (by omega)]
        have h3 : ¬ S ≤ 2 ^ n - 1 := by omega
        clear hN
        go_enter Tryz.func79, Tryz.ntmps79
        go_wp2_with (fail)
        refine (cL _).mono ?_
        rintro e w' ⟨rfl, rfl⟩
        go_wp2_with (fail)
        refine (cS _).mono ?_
        rintro e w' ⟨rfl, q, rfl⟩
        go_wp2
        go_ret
        exact ⟨by simp [h3], q, rfl⟩
    · rw [validM_low (by omega)]
      clear hN
      go_enter Tryz.func79, Tryz.ntmps79
      go_wp2_with (fail)
      refine (cL _).mono ?_
      rintro e w' ⟨rfl, rfl⟩
      go_wp2
      go_ret
      exact ⟨rfl, 0, rfl⟩
  · rw [show lenB N = false from decide_eq_false hN] at cL
    rw [validM_no hN]
    clear hN
    go_enter Tryz.func79, Tryz.ntmps79
    go_wp2_with (fail)
    refine (cL _).mono ?_
    rintro e w' ⟨rfl, rfl⟩
    go_wp2
    go_ret
    exact ⟨rfl, 0, rfl⟩
set_option maxHeartbeats 2000000 in
theorem rvalid_any (S N : Int) (w : World) : Calls Tryz.prog 54 #[.int .i64 S, .int .i64 N] w fun e w' => e = .returned (.bool (validM S N)) ∧ ∃ q, w' = w.drewN q := by
  by_cases h0 : 1 ≤ N
  · by_cases h20 : N ≤ 20
    · obtain ⟨n, rfl⟩ := natN (show 0 ≤ N by omega)
      have hp := powI n (by omega)
      by_cases h1 : 1 ≤ S
      · by_cases h2 : S < 2 ^ n
        · rw [validM_yes (by omega) (by omega) h1 h2]
          go_enter Tryz.func54, Tryz.ntmps54
          go_wp2
          go_ret
          exact ⟨rfl, 0, rfl⟩
        · rw [validM_high (by omega)]
          go_enter Tryz.func54, Tryz.ntmps54
          go_wp2
          go_ret
          exact ⟨by simp, 0, rfl⟩
      · rw [validM_low (by omega)]
        go_enter Tryz.func54, Tryz.ntmps54
        go_wp2
        go_ret
        exact ⟨rfl, 0, rfl⟩
    · rw [validM_no (by omega)]
      go_enter Tryz.func54, Tryz.ntmps54
      go_wp2
      go_ret
      exact ⟨rfl, 0, rfl⟩
  · rw [validM_no (by omega)]
    go_enter Tryz.func54, Tryz.ntmps54
    go_wp2
    go_ret
    exact ⟨rfl, 0, rfl⟩
end Go.Proofs.YteckefolakjafaaGreatDoor

