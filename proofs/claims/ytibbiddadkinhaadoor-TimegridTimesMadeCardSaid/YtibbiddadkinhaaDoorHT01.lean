/-
  The made texts: Light, Roll, One, Text of package timetablemade. Conditions: the numbers lie in memory as a slice of ints.
  Strings as lists of bytes, cut at a byte; lists of strings in memory. No program beyond the types' facts, no conditions.
  Sets of weeks: plain mathematics. No program, no conditions.
  isLength, span, Valid: the program's and the specification's. Conditions: span's arguments are from 1 to 21 and from 0 to 20.
  Valid: the program's and the specification's. Conditions: none.
  Weeks: the program's and the specification's. Conditions: none.
  The set of a name: the program's (named).in and the specification's named. Conditions: the number of weeks is from 1 to 20; the name is one of the five.
  The names of sets: the program's setOf and nameOf. Conditions: the table of names holds what its text lays; the number of weeks is from 1 to 20.
-/
import Derived.Test.YtibbiddadkinhaaDoorProg
import Derived.WalkKit
import Derived.WalkSpells
import Derived.WalkLawsBesides
import Derived.Lib.Hide
import Derived.Deep.QuietTactic
import Derived.BigQuiet
import Derived.Laws.Rows
import Derived.OwnWalk
import Derived.Lib.BufferWrite
import Derived.Lib.UnsafeStr
import Derived.Laws.IdiomStrings
import Derived.Laws.BytesArg
import Derived.Laws.BytesString
import Derived.Laws.OwnMore
import Derived.Lib.IndexLaws
import Derived.Lib.ItoaNum
import Derived.Lib.Atoi
import Derived.Laws.BitsAllLaws
import Derived.Laws.BitsLemmas
import Derived.Deep.MidRow
set_option linter.unusedVariables false
namespace Go.Proofs.YtibbiddadkinhaaDoor
open Go Go.Proofs Go.RowKit Go.Lib

theorem infoByte : (Tryd.prog.info? 5).map (fun i => (i.zero, i.size, i.bytes)) = some (some (.int .u8 0), 1, 1) := by kernel_rfl

end Go.Proofs.YtibbiddadkinhaaDoor

set_option linter.unusedVariables false
namespace Go.Proofs.YtibbiddadkinhaaDoor
open Go Go.Proofs Go.RowKit Go.Lib

abbrev Str := List UInt8
abbrev lst (s : ByteArray) : Str := s.data.toList
def ba (s : Str) : ByteArray := ⟨s.toArray⟩
theorem ba_lst (s : ByteArray) : ba (lst s) = s := by cases s; rfl
theorem lst_ba (l : Str) : lst (ba l) = l := rfl
theorem lst_extract (s : ByteArray) (a b : Nat) : lst (s.extract a b) = ((lst s).take b).drop a := by
  simp [lst, ByteArray.data_extract, List.extract_eq_take_drop, List.drop_take]
theorem str_no {s : ByteArray} (h : 0 < s.size) : (s.toList == []) = false ∧ (!s.toList.isEmpty) = true ∧ (s.toList != []) = true ∧ ¬ s.toList = [] := by
  have hne : s.toList ≠ [] := fun e => by
    rw [Lib.toList_data] at e
    rw [Lib.size_eq, e] at h
    simp at h
  refine ⟨by simpa using hne, by simpa using hne, by simpa using hne, hne⟩
theorem str_yes {s : ByteArray} (h : ¬ 0 < s.size) : (s.toList == []) = true ∧ (!s.toList.isEmpty) = false ∧ (s.toList != []) = false ∧ s.toList = [] := by
  have e : s.toList = [] := by
    rw [Lib.toList_data]
    exact List.eq_nil_of_length_eq_zero (by rw [← Lib.size_eq]; omega)
  refine ⟨by simpa using e, by simp [e], by simp [e], e⟩
theorem lst_ne {s : ByteArray} (h : 0 < s.size) : lst s ≠ [] := fun e => by
  have h' : 0 < (lst s).length := by rw [← Lib.size_eq]; exact h
  rw [e] at h'
  simp at h'
theorem lst_nil {s : ByteArray} (h : ¬ 0 < s.size) : lst s = [] := List.eq_nil_of_length_eq_zero (by rw [← Lib.size_eq]; omega)

/-! ### cutting at a byte -/
def bef (c : UInt8) : Str → Str
  | [] => []
  | x :: r => if x = c then [] else x :: bef c r
def aft (c : UInt8) : Str → Str
  | [] => []
  | x :: r => if x = c then r else aft c r
def has (c : UInt8) : Str → Bool
  | [] => false
  | x :: r => x == c || has c r
theorem bef_le (c : UInt8) : ∀ s, (bef c s).length ≤ s.length
  | [] => Nat.le_refl _
  | x :: r => by
    unfold bef
    have := bef_le c r
    split <;> simp <;> omega
theorem bef_miss (c : UInt8) : ∀ s, has c s = false → bef c s = s ∧ aft c s = []
  | [], _ => ⟨rfl, rfl⟩
  | x :: r, h => by
    simp [has] at h
    have := bef_miss c r h.2
    simp [bef, aft, h.1, this.1, this.2]
theorem bef_hit (c : UInt8) : ∀ s, has c s = true → s = bef c s ++ c :: aft c s
  | [], h => by simp [has] at h
  | x :: r, h => by
    by_cases e : x = c
    · simp [bef, aft, e]
    · have h' : has c r = true := by simpa [has, e] using h
      simp only [bef, aft, if_neg e, List.cons_append]
      rw [← bef_hit c r h']
theorem bef_take (c : UInt8) (s : Str) : s.take (bef c s).length = bef c s := by
  cases hc : has c s with
  | true =>
    have h0 := bef_hit c s hc
    generalize bef c s = p at h0 ⊢
    rw [h0]
    simp
  | false => rw [(bef_miss c s hc).1, List.take_of_length_le (Nat.le_refl _)]
theorem aft_drop (c : UInt8) (s : Str) (h : has c s = true) : s.drop ((bef c s).length + 1) = aft c s := by
  have h0 := bef_hit c s h
  generalize bef c s = p at h0 ⊢
  generalize aft c s = q at h0 ⊢
  rw [h0]
  simp
theorem indexByte_bef (c : UInt8) : ∀ s, Lib.indexByte s c = if has c s = true then ((bef c s).length : Int) else -1
  | [] => rfl
  | x :: r => by
    have ih := indexByte_bef c r
    unfold Lib.indexByte
    by_cases e : x = c
    · simp [e, has, bef]
    · have e' : (x == c) = false := by simpa using e
      simp only [e', has, bef, if_neg e, Bool.false_or, Bool.false_eq_true, if_false]
      rw [ih]
      by_cases hh : has c r = true
      · rw [if_pos hh, if_pos hh]
        rw [if_neg (by simp)]
        simp
      · rw [if_neg hh, if_neg hh]
        rfl

end Go.Proofs.YtibbiddadkinhaaDoor

set_option linter.unusedVariables false
namespace Go.Proofs.YtibbiddadkinhaaDoor
open Go Go.Lib

/-! ### bits -/
def bitB (s k : Nat) : Bool := decide (s / 2 ^ k % 2 = 1)
/-! ### named sets, spans -/
def inB (k n w : Nat) : Bool :=
  match k with
  | 0 => true
  | 1 => decide (w % 2 = 1)
  | 2 => decide (w % 2 = 0)
  | 3 => decide (w ≤ (n + 1) / 2)
  | _ => decide ((n + 1) / 2 < w)
def nmP (k n : Nat) : Nat → Nat
  | 0 => 0
  | w + 1 => if inB k n (w + 1) = true then nmP k n w + 2 ^ w else nmP k n w
def nmM (k n : Nat) : Nat := nmP k n n
theorem nmP_lt (k n : Nat) : ∀ w, nmP k n w < 2 ^ w
  | 0 => by simp [nmP]
  | w + 1 => by
    have := nmP_lt k n w
    rw [Nat.pow_succ]
    unfold nmP
    split <;> omega
def spanN (a b : Nat) : Nat := 2 ^ b - 2 ^ (a - 1)
theorem pow_le {a b : Nat} (h : a ≤ b) : 2 ^ a ≤ 2 ^ b := Nat.pow_le_pow_right (by omega) h
theorem spanN_lt (a b : Nat) : spanN a b < 2 ^ b := by
  have := Nat.two_pow_pos (a - 1)
  have := Nat.two_pow_pos b
  unfold spanN
  omega
/-! ### items -/
def wordS : Nat → Str
  | 0 => [97, 108, 108]
  | 1 => [111, 100, 100]
  | 2 => [101, 118, 101, 110]
  | 3 => [102, 105, 114, 115, 116]
  | _ => [115, 101, 99, 111, 110, 100]
def kindOf (x : Str) : Option Nat := (List.range 5).find? fun k => decide (wordS k = x)
/-- A number of one or two digits; 0 for others. -/
def smallN : Str → Nat
  | [a] => if 49 ≤ a.toNat ∧ a.toNat ≤ 57 then a.toNat - 48 else 0
  | [a, b] => if (49 ≤ a.toNat ∧ a.toNat ≤ 57) ∧ 48 ≤ b.toNat ∧ b.toNat ≤ 57 then 10 * (a.toNat - 48) + (b.toNat - 48) else 0
  | _ => 0
theorem smallN_lt (s : Str) : smallN s < 100 := by
  unfold smallN
  split
  · split <;> omega
  · split <;> omega
  · omega
def fromN (x : Str) : Nat := smallN (bef 45 x)
def toN (x : Str) : Nat := if has 45 x = true then smallN (aft 45 x) else smallN (bef 45 x)
def numM (x : Str) (n : Nat) : Nat × Int :=
  if fromN x = 0 ∨ toN x = 0 then (0, 4) else if toN x < fromN x ∨ n < toN x then (0, 3) else (spanN (fromN x) (toN x), 0)
/-- What an item means, or its error. -/
def itemM (x : Str) (n : Nat) : Nat × Int :=
  match kindOf x with
  | some k => (nmM k n, 0)
  | none => numM x n
theorem item_lt (x : Str) (n : Nat) : (itemM x n).1 < 2 ^ n := by
  have hp := Nat.two_pow_pos n
  unfold itemM
  split
  · exact nmP_lt _ _ _
  · unfold numM
    split
    · exact hp
    · split
      · exact hp
      · rename_i h
        exact Nat.lt_of_lt_of_le (spanN_lt _ _) (pow_le (by omega))
/-- The parts between the commas. -/
def splitL : Str → List Str
  | [] => [[]]
  | c :: s => if c = 44 then [] :: splitL s else (c :: (splitL s).headD []) :: (splitL s).tail
/-- The union of the items behind those that have come, or the first error. -/
def goP (n : Nat) : List Str → Nat → Nat × Int
  | [], acc => (acc, 0)
  | x :: xs, acc => if (itemM x n).2 ≠ 0 then (0, (itemM x n).2) else goP n xs (acc ||| (itemM x n).1)
theorem goP_ok {n : Nat} {x : Str} (h : (itemM x n).2 = 0) (xs : List Str) (acc : Nat) : goP n (x :: xs) acc = goP n xs (acc ||| (itemM x n).1) := if_neg (by rw [h]; simp)
theorem goP_err {n : Nat} {x : Str} (h : (itemM x n).2 ≠ 0) (xs : List Str) (acc : Nat) : goP n (x :: xs) acc = (0, (itemM x n).2) := if_pos h
theorem goP_lt (n : Nat) : ∀ xs acc, acc < 2 ^ n → (goP n xs acc).1 < 2 ^ n
  | [], acc, h => h
  | x :: xs, acc, h => by
    by_cases hx : (itemM x n).2 = 0
    · rw [goP_ok hx]
      exact goP_lt n xs _ (Nat.or_lt_two_pow h (item_lt x n))
    · rw [goP_err hx]
      exact Nat.two_pow_pos n
theorem goP_app (n : Nat) : ∀ xs ys acc, (goP n xs acc).2 = 0 → goP n (xs ++ ys) acc = goP n ys (goP n xs acc).1
  | [], ys, acc, _ => rfl
  | x :: xs, ys, acc, h => by
    rw [List.cons_append]
    by_cases hx : (itemM x n).2 = 0
    · rw [goP_ok hx] at h ⊢
      rw [goP_ok hx]
      exact goP_app n xs ys _ h
    · rw [goP_err hx] at h
      exact absurd h hx
/-- What Parse hands back. -/
def parseN (s : Str) (n : Nat) : Nat × Int := if (goP n (splitL s) 0).2 ≠ 0 then (0, (goP n (splitL s) 0).2) else if (goP n (splitL s) 0).1 = 0 then (0, 16) else ((goP n (splitL s) 0).1, 0)
def parseM (s : Str) (N : Int) : Nat × Int := if 1 ≤ N ∧ N ≤ 20 then parseN s N.toNat else (0, 3)

/-! ### runs -/
/-- How many of a list go on from a number. -/
def cnt : Nat → List Nat → Nat
  | _, [] => 0
  | a, b :: l => if b = a + 1 then cnt b l + 1 else 0
def runs : List Nat → List (Nat × Nat)
  | [] => []
  | a :: l => (a, a + cnt a l) :: runs (l.drop (cnt a l))
termination_by l => l.length
decreasing_by simp; omega
def validM (S N : Int) : Bool := decide ((1 ≤ N ∧ N ≤ 20) ∧ 1 ≤ S ∧ S < 2 ^ N.toNat)
end Go.Proofs.YtibbiddadkinhaaDoor

set_option linter.unusedVariables false
namespace Go.Proofs.YtibbiddadkinhaaDoor
open Go Go.Proofs Go.RowKit Go.Lib

def lenB (N : Int) : Bool := decide (1 ≤ N ∧ N ≤ 20)
set_option maxHeartbeats 1000000 in
theorem isLength_any (N : Int) (w : World) : Calls Tryd.prog 48 #[.int .i64 N] w fun e w' => e = .returned (.bool (lenB N)) ∧ w = w' := by
  unfold lenB
  by_cases h0 : 1 ≤ N
  · by_cases h1 : N ≤ 20
    · rw [decide_eq_true ⟨h0, h1⟩]
      go_enter Tryd.func48, Tryd.ntmps48
      go_wp2
      go_ret
      exact ⟨rfl, rfl⟩
    · rw [decide_eq_false (fun h => h1 h.2)]
      go_enter Tryd.func48, Tryd.ntmps48
      go_wp2
      go_ret
      exact ⟨rfl, rfl⟩
  · rw [decide_eq_false (fun h => h0 h.1)]
    go_enter Tryd.func48, Tryd.ntmps48
    go_wp2
    go_ret
    exact ⟨rfl, rfl⟩
theorem powI (b : Nat) (h : b ≤ 20) : (1 : Int) ≤ 2 ^ b ∧ (2 : Int) ^ b ≤ 1048576 := by
  have h1 : 2 ^ b ≤ 2 ^ 20 := pow_le h
  have h2 := Nat.two_pow_pos b
  have e : (2 : Int) ^ b = ((2 ^ b : Nat) : Int) := by rw [Int.natCast_pow]; rfl
  omega
theorem spanI (a b : Nat) (h : a ≤ b) : (2 : Int) ^ b - 2 ^ a = ((spanN (a + 1) b : Nat) : Int) := by
  have h1 := pow_le h
  have e : (2 : Int) ^ b = ((2 ^ b : Nat) : Int) := by rw [Int.natCast_pow]; rfl
  have e2 : (2 : Int) ^ a = ((2 ^ a : Nat) : Int) := by rw [Int.natCast_pow]; rfl
  unfold spanN
  rw [Nat.add_sub_cancel]
  omega
theorem ret_int {k : IntKind} {a b : Int} (h : a = b) : Ending.returned (.int k a) = .returned (.int k b) := by rw [h]
set_option maxHeartbeats 1000000 in
theorem span_any (a b : Nat) (hb : b ≤ 20) (hab : a ≤ b) (w : World) : Calls Tryd.prog 49 #[.int .i64 ((a : Int) + 1), .int .i64 (b : Int)] w fun e w' => e = .returned (.int .i64 ((spanN (a + 1) b : Nat) : Int)) ∧ ∃ n, w' = w.drewN n := by
  have hp := powI a (by omega)
  have hq := powI b hb
  have hs := spanI a b hab
  have e1 : IntKind.i64.wrap ((a : Int) + 1 - 1) = (a : Int) := by rw [Int.add_sub_cancel]; exact IntWalk.i64_in _ (by omega)
  have e2 : IntKind.i64.wrap ((2 : Int) ^ b - 2 ^ a) = (2 : Int) ^ b - 2 ^ a := IntWalk.i64_in _ (by omega)
  rw [← hs]
  clear hs
  go_enter Tryd.func49, Tryd.ntmps49
  go_wp2
  go_quiet (fail)
  go_wp2
  go_ret
  exact ⟨rfl, _, rfl⟩
end Go.Proofs.YtibbiddadkinhaaDoor

set_option linter.unusedVariables false
namespace Go.Proofs.YtibbiddadkinhaaDoor
open Go Go.Proofs Go.RowKit Go.Lib

theorem span1_any (n : Nat) (hn : n ≤ 20) (w : World) : Calls Tryd.prog 49 #[.int .i64 1, .int .i64 (n : Int)] w fun e w' => e = .returned (.int .i64 ((2 : Int) ^ n - 1)) ∧ ∃ q, w' = w.drewN q := by
  have h := span_any 0 n hn (Nat.zero_le _) w
  rw [← spanI 0 n (Nat.zero_le _)] at h
  exact h
theorem natN {N : Int} (h : 0 ≤ N) : ∃ n : Nat, N = (n : Int) := Int.eq_ofNat_of_zero_le h
theorem validM_no {S N : Int} (h : ¬ (1 ≤ N ∧ N ≤ 20)) : validM S N = false := decide_eq_false (fun k => h k.1)
theorem validM_low {S N : Int} (h : S < 1) : validM S N = false := decide_eq_false (fun k => by omega)
theorem validM_high {S : Int} {n : Nat} (h : 2 ^ n ≤ S) : validM S n = false := decide_eq_false (fun k => by
  have : (n : Int).toNat = n := Int.toNat_natCast n
  rw [this] at k
  omega)
theorem validM_yes {S : Int} {n : Nat} (h1 : 1 ≤ n) (h2 : n ≤ 20) (hs : 1 ≤ S) (h : S < 2 ^ n) : validM S n = true := decide_eq_true ⟨⟨by omega, by omega⟩, hs, by rw [Int.toNat_natCast]; exact h⟩

set_option maxHeartbeats 2000000 in
theorem valid_any (S N : Int) (w : World) : Calls Tryd.prog 34 #[.int .i64 S, .int .i64 N] w fun e w' => e = .returned (.bool (validM S N)) ∧ ∃ q, w' = w.drewN q := by
  have cL := isLength_any N
  by_cases hN : 1 ≤ N ∧ N ≤ 20
  · obtain ⟨n, rfl⟩ := natN (show 0 ≤ N by omega)
    rw [show lenB (n : Int) = true from decide_eq_true hN] at cL
    have cS := span1_any n (by omega)
    have hp := powI n (by omega)
    by_cases h1 : 1 ≤ S
    · by_cases h2 : S < 2 ^ n
      · rw [validM_yes (by omega) (by omega) h1 h2]
        have h3 : S ≤ 2 ^ n - 1 := by omega
        clear hN
        go_enter Tryd.func34, Tryd.ntmps34
        go_wp2_with (fail)
        first
          | (refine (cL _).mono ?_; rintro e w' ⟨rfl, rfl⟩)
          | skip
        go_wp2_with (fail)
        refine (cS _).mono ?_
        rintro e w' ⟨rfl, q, rfl⟩
        go_wp2
        go_ret
        exact ⟨rfl, q, rfl⟩
      · rw [validM_high (by omega)]
        have h3 : ¬ S ≤ 2 ^ n - 1 := by omega
        clear hN
        go_enter Tryd.func34, Tryd.ntmps34
        go_wp2_with (fail)
        refine (cL _).mono ?_
        rintro e w' ⟨rfl, rfl⟩
        go_wp2_with (fail)
        refine (cS _).mono ?_
        rintro e w' ⟨rfl, q, rfl⟩
        go_wp2
        go_ret
        exact ⟨by simp [h3], q, rfl⟩
    · rw [validM_low (by omega)]
      clear hN
      go_enter Tryd.func34, Tryd.ntmps34
      go_wp2_with (fail)
      refine (cL _).mono ?_
      rintro e w' ⟨rfl, rfl⟩
      go_wp2
      go_ret
      exact ⟨rfl, 0, rfl⟩
  · rw [show lenB N = false from decide_eq_false hN] at cL
    rw [validM_no hN]
    clear hN
    go_enter Tryd.func34, Tryd.ntmps34
    go_wp2_with (fail)
    refine (cL _).mono ?_
    rintro e w' ⟨rfl, rfl⟩
    go_wp2
    go_ret
    exact ⟨rfl, 0, rfl⟩
set_option maxHeartbeats 2000000 in
theorem rvalid_any (S N : Int) (w : World) : Calls Tryd.prog 36 #[.int .i64 S, .int .i64 N] w fun e w' => e = .returned (.bool (validM S N)) ∧ ∃ q, w' = w.drewN q := by
  by_cases h0 : 1 ≤ N
  · by_cases h20 : N ≤ 20
    · obtain ⟨n, rfl⟩ := natN (show 0 ≤ N by omega)
      have hp := powI n (by omega)
      by_cases h1 : 1 ≤ S
      · by_cases h2 : S < 2 ^ n
        · rw [validM_yes (by omega) (by omega) h1 h2]
          go_enter Tryd.func36, Tryd.ntmps36
          go_wp2
          go_ret
          exact ⟨rfl, 0, rfl⟩
        · rw [validM_high (by omega)]
          go_enter Tryd.func36, Tryd.ntmps36
          go_wp2
          go_ret
          exact ⟨by simp, 0, rfl⟩
      · rw [validM_low (by omega)]
        go_enter Tryd.func36, Tryd.ntmps36
        go_wp2
        go_ret
        exact ⟨rfl, 0, rfl⟩
    · rw [validM_no (by omega)]
      go_enter Tryd.func36, Tryd.ntmps36
      go_wp2
      go_ret
      exact ⟨rfl, 0, rfl⟩
  · rw [validM_no (by omega)]
    go_enter Tryd.func36, Tryd.ntmps36
    go_wp2
    go_ret
    exact ⟨rfl, 0, rfl⟩
end Go.Proofs.YtibbiddadkinhaaDoor

set_option linter.unusedVariables false
namespace Go.Proofs.YtibbiddadkinhaaDoor
open Go Go.Proofs Go.RowKit Go.Lib

theorem bw_ofInt (a : Nat) (ha : a < 9223372036854775808) : (BitVec.ofInt 64 (a : Int)).toNat = a := by
  rw [BitVec.ofInt_natCast, BitVec.toNat_ofNat]; exact Nat.mod_eq_of_lt (by omega)
theorem bw_and (a b : Nat) (ha : a < 9223372036854775808) (hb : b < 9223372036854775808) : bits .and .i64 (a : Int) (b : Int) = ((a &&& b : Nat) : Int) := by
  have hx : a &&& b < 2 ^ 63 := Nat.and_lt_two_pow _ (by omega)
  show IntKind.i64.wrap ((BitVec.ofInt 64 (a : Int) &&& BitVec.ofInt 64 (b : Int)).toNat : Int) = _
  rw [BitVec.toNat_and, bw_ofInt a ha, bw_ofInt b hb, IntKind.wrap_i64]
  omega
theorem bw_or (a b : Nat) (ha : a < 9223372036854775808) (hb : b < 9223372036854775808) : bits .or .i64 (a : Int) (b : Int) = ((a ||| b : Nat) : Int) := by
  have hx : a ||| b < 2 ^ 63 := Nat.or_lt_two_pow (by omega) (by omega)
  show IntKind.i64.wrap ((BitVec.ofInt 64 (a : Int) ||| BitVec.ofInt 64 (b : Int)).toNat : Int) = _
  rw [BitVec.toNat_or, bw_ofInt a ha, bw_ofInt b hb, IntKind.wrap_i64]
  omega
end Go.Proofs.YtibbiddadkinhaaDoor

set_option linter.unusedVariables false
namespace Go.Proofs.YtibbiddadkinhaaDoor
open Go Go.Proofs Go.RowKit Go.Lib

/-- The entries of the table of names. -/
def nv : Nat → Array Value
  | 0 => #[.string ⟨#[97, 108, 108]⟩, .int .i64 1048575, .bool true, .bool true]
  | 1 => #[.string ⟨#[111, 100, 100]⟩, .int .i64 349525, .bool true, .bool true]
  | 2 => #[.string ⟨#[101, 118, 101, 110]⟩, .int .i64 699050, .bool true, .bool true]
  | 3 => #[.string ⟨#[102, 105, 114, 115, 116]⟩, .int .i64 1048575, .bool true, .bool false]
  | _ => #[.string ⟨#[115, 101, 99, 111, 110, 100]⟩, .int .i64 1048575, .bool false, .bool true]
theorem in_table : ∀ n : Fin 21, 1 ≤ n.val → (spanN 1 n.val &&& 1048575 = nmM 0 n.val) ∧ (spanN 1 n.val &&& 349525 = nmM 1 n.val) ∧ (spanN 1 n.val &&& 699050 = nmM 2 n.val) ∧ (spanN 1 ((n.val + 1) / 2) &&& 1048575 = nmM 3 n.val) ∧ (spanN ((n.val + 1) / 2 + 1) n.val &&& 1048575 = nmM 4 n.val) := by decide +kernel
theorem in_and (x m v : Nat) (hx : x < 1048576) (hm : m < 1048576) (h : x &&& m = v) : bits .and .i64 (x : Int) (m : Int) = (v : Int) := by rw [bw_and x m (by omega) (by omega), h]
theorem spanN_small (a b : Nat) (h : b ≤ 20) : spanN a b < 1048576 := Nat.lt_of_lt_of_le (spanN_lt a b) (pow_le h)

set_option maxHeartbeats 4000000 in
set_option maxRecDepth 100000 in
theorem in_any (k n : Nat) (hk : k < 5) (h1 : 1 ≤ n) (h2 : n ≤ 20) (w : World) : Calls Tryd.prog 61 #[.agg (nv k), .int .i64 (n : Int)] w fun e w' => e = .returned (.int .i64 (nmM k n : Nat)) ∧ Below w.heap.size w w' := by
  obtain ⟨t0, t1, t2, t3, t4⟩ := in_table ⟨n, by omega⟩ h1
  simp only at t0 t1 t2 t3 t4
  obtain ⟨h, hh⟩ : ∃ h, (n + 1) / 2 = h := ⟨_, rfl⟩
  rw [hh] at t3 t4
  have hI : ((n : Int) + 1) / 2 = (h : Int) := by omega
  have hT : Int.tdiv ((n : Int) + 1) 2 = (h : Int) := by rw [Int.tdiv_eq_ediv_of_nonneg (by omega)]; exact hI
  have hle : h ≤ n := by omega
  have q0 := in_and _ 1048575 _ (spanN_small 1 n h2) (by omega) t0
  have q1 := in_and _ 349525 _ (spanN_small 1 n h2) (by omega) t1
  have q2 := in_and _ 699050 _ (spanN_small 1 n h2) (by omega) t2
  have q3 := in_and _ 1048575 _ (spanN_small 1 h (by omega)) (by omega) t3
  have q4 := in_and _ 1048575 _ (spanN_small (h + 1) n h2) (by omega) t4
  have cA := fun w => span_any 0 n h2 (Nat.zero_le _) w
  have cB := fun w => span_any 0 h (by omega) (Nat.zero_le _) w
  have cC := fun w => span_any h n h2 hle w
  simp only [Nat.zero_add, Int.natCast_zero, Int.zero_add] at cA cB
  obtain ⟨A, hA⟩ : ∃ A, spanN 1 n = A := ⟨_, rfl⟩
  obtain ⟨B, hB⟩ : ∃ B, spanN 1 h = B := ⟨_, rfl⟩
  obtain ⟨C, hC⟩ : ∃ C, spanN (h + 1) n = C := ⟨_, rfl⟩
  rw [hA] at cA q0 q1 q2
  rw [hB] at cB q3
  rw [hC] at cC q4
  clear hA hB hC t0 t1 t2 t3 t4 hh
  have hb : ∀ (o : Obj) (q : Nat), Below w.heap.size w ((w.alloc o).drewN q) := fun o q => Go.below_drewN ((Below.refl _ w).alloc (Nat.le_refl _) o) q
  have HB := hid hb
  clear hb
  rcases (show k = 0 ∨ k = 1 ∨ k = 2 ∨ k = 3 ∨ k = 4 by omega) with rfl | rfl | rfl | rfl | rfl
  all_goals
    unfold nv
    go_enter Tryd.func61, Tryd.ntmps61
    go_wp2
    go_quiet ((go_at_call 49; first | with_reducible refine Calls.quiet_of (cA _) | with_reducible refine Calls.quiet_of (cB _) | with_reducible refine Calls.quiet_of (cC _)))
    go_wp2
    go_ret
    first | exact ⟨ret_int q0, HB.out _ _⟩ | exact ⟨ret_int q1, HB.out _ _⟩ | exact ⟨ret_int q2, HB.out _ _⟩ | exact ⟨ret_int q3, HB.out _ _⟩ | exact ⟨ret_int q4, HB.out _ _⟩

end Go.Proofs.YtibbiddadkinhaaDoor

set_option linter.unusedVariables false
namespace Go.Proofs.YtibbiddadkinhaaDoor
open Go Go.Proofs Go.RowKit Go.Lib

/-- The cells of the table of names. -/
def nameCells : List Value := (nv 0).toList ++ (nv 1).toList ++ (nv 2).toList ++ (nv 3).toList ++ (nv 4).toList
def Names (w : World) : Prop := ∀ (j : Nat) (v : Value), nameCells[j]? = some v → w.cell? ⟨1, j, none⟩ = some v
theorem kindOf_some {k : Nat} {x : Str} (hk : k < 5) (h : wordS k = x) : kindOf x = some k := by
  subst h
  rcases (show k = 0 ∨ k = 1 ∨ k = 2 ∨ k = 3 ∨ k = 4 by omega) with rfl | rfl | rfl | rfl | rfl <;> decide
theorem kindOf_none {x : Str} (h : ∀ i, i < 5 → wordS i ≠ x) : kindOf x = none := by
  unfold kindOf
  rw [List.find?_eq_none]
  intro k hk
  simp only [decide_eq_true_eq]
  exact h k (List.mem_range.1 hk)
def setOfM (x : Str) (n : Nat) : Nat × Bool := match kindOf x with | some k => (nmM k n, true) | none => (0, false)
theorem tl_eq (s : ByteArray) : s.toList = lst s := Lib.toList_data s
theorem idx0 (w : World) : (Instr.index 86 (Value.agg #[Value.string { data := #[97, 108, 108] }, Value.int IntKind.i64 1048575, Value.bool true, Value.bool true, Value.string { data := #[111, 100, 100] }, Value.int IntKind.i64 349525, Value.bool true, Value.bool true, Value.string { data := #[101, 118, 101, 110] }, Value.int IntKind.i64 699050, Value.bool true, Value.bool true, Value.string { data := #[102, 105, 114, 115, 116] }, Value.int IntKind.i64 1048575, Value.bool true, Value.bool false, Value.string { data := #[115, 101, 99, 111, 110, 100] }, Value.int IntKind.i64 1048575, Value.bool false, Value.bool true]) (Value.int IntKind.i64 0)).run Tryd.prog w = .ok (Value.agg #[Value.string { data := #[97, 108, 108] }, Value.int IntKind.i64 1048575, Value.bool true, Value.bool true]) w := by kernel_rfl
theorem idx1 (w : World) : (Instr.index 86 (Value.agg #[Value.string { data := #[97, 108, 108] }, Value.int IntKind.i64 1048575, Value.bool true, Value.bool true, Value.string { data := #[111, 100, 100] }, Value.int IntKind.i64 349525, Value.bool true, Value.bool true, Value.string { data := #[101, 118, 101, 110] }, Value.int IntKind.i64 699050, Value.bool true, Value.bool true, Value.string { data := #[102, 105, 114, 115, 116] }, Value.int IntKind.i64 1048575, Value.bool true, Value.bool false, Value.string { data := #[115, 101, 99, 111, 110, 100] }, Value.int IntKind.i64 1048575, Value.bool false, Value.bool true]) (Value.int IntKind.i64 1)).run Tryd.prog w = .ok (Value.agg #[Value.string { data := #[111, 100, 100] }, Value.int IntKind.i64 349525, Value.bool true, Value.bool true]) w := by kernel_rfl
theorem idx2 (w : World) : (Instr.index 86 (Value.agg #[Value.string { data := #[97, 108, 108] }, Value.int IntKind.i64 1048575, Value.bool true, Value.bool true, Value.string { data := #[111, 100, 100] }, Value.int IntKind.i64 349525, Value.bool true, Value.bool true, Value.string { data := #[101, 118, 101, 110] }, Value.int IntKind.i64 699050, Value.bool true, Value.bool true, Value.string { data := #[102, 105, 114, 115, 116] }, Value.int IntKind.i64 1048575, Value.bool true, Value.bool false, Value.string { data := #[115, 101, 99, 111, 110, 100] }, Value.int IntKind.i64 1048575, Value.bool false, Value.bool true]) (Value.int IntKind.i64 2)).run Tryd.prog w = .ok (Value.agg #[Value.string { data := #[101, 118, 101, 110] }, Value.int IntKind.i64 699050, Value.bool true, Value.bool true]) w := by kernel_rfl
theorem idx3 (w : World) : (Instr.index 86 (Value.agg #[Value.string { data := #[97, 108, 108] }, Value.int IntKind.i64 1048575, Value.bool true, Value.bool true, Value.string { data := #[111, 100, 100] }, Value.int IntKind.i64 349525, Value.bool true, Value.bool true, Value.string { data := #[101, 118, 101, 110] }, Value.int IntKind.i64 699050, Value.bool true, Value.bool true, Value.string { data := #[102, 105, 114, 115, 116] }, Value.int IntKind.i64 1048575, Value.bool true, Value.bool false, Value.string { data := #[115, 101, 99, 111, 110, 100] }, Value.int IntKind.i64 1048575, Value.bool false, Value.bool true]) (Value.int IntKind.i64 3)).run Tryd.prog w = .ok (Value.agg #[Value.string { data := #[102, 105, 114, 115, 116] }, Value.int IntKind.i64 1048575, Value.bool true, Value.bool false]) w := by kernel_rfl
theorem idx4 (w : World) : (Instr.index 86 (Value.agg #[Value.string { data := #[97, 108, 108] }, Value.int IntKind.i64 1048575, Value.bool true, Value.bool true, Value.string { data := #[111, 100, 100] }, Value.int IntKind.i64 349525, Value.bool true, Value.bool true, Value.string { data := #[101, 118, 101, 110] }, Value.int IntKind.i64 699050, Value.bool true, Value.bool true, Value.string { data := #[102, 105, 114, 115, 116] }, Value.int IntKind.i64 1048575, Value.bool true, Value.bool false, Value.string { data := #[115, 101, 99, 111, 110, 100] }, Value.int IntKind.i64 1048575, Value.bool false, Value.bool true]) (Value.int IntKind.i64 4)).run Tryd.prog w = .ok (Value.agg #[Value.string { data := #[115, 101, 99, 111, 110, 100] }, Value.int IntKind.i64 1048575, Value.bool false, Value.bool true]) w := by kernel_rfl
/-- The table of names as one value. -/
def NA : Array Value := #[Value.string { data := #[97, 108, 108] }, Value.int IntKind.i64 1048575, Value.bool true, Value.bool true, Value.string { data := #[111, 100, 100] }, Value.int IntKind.i64 349525, Value.bool true, Value.bool true, Value.string { data := #[101, 118, 101, 110] }, Value.int IntKind.i64 699050, Value.bool true, Value.bool true, Value.string { data := #[102, 105, 114, 115, 116] }, Value.int IntKind.i64 1048575, Value.bool true, Value.bool false, Value.string { data := #[115, 101, 99, 111, 110, 100] }, Value.int IntKind.i64 1048575, Value.bool false, Value.bool true]
theorem idx_any (k : Nat) (hk : k < 5) : ∃ (T : ByteArray) (m : Int) (a b : Bool), nv k = #[.string T, .int .i64 m, .bool a, .bool b] ∧ lst T = wordS k ∧
    ∀ w, (Instr.index 86 (Value.agg NA) (Value.int IntKind.i64 (k : Int))).run Tryd.prog w = .ok (Value.agg #[.string T, .int .i64 m, .bool a, .bool b]) w := by
  rcases (show k = 0 ∨ k = 1 ∨ k = 2 ∨ k = 3 ∨ k = 4 by omega) with rfl | rfl | rfl | rfl | rfl
  · exact ⟨_, _, _, _, rfl, rfl, idx0⟩
  · exact ⟨_, _, _, _, rfl, rfl, idx1⟩
  · exact ⟨_, _, _, _, rfl, rfl, idx2⟩
  · exact ⟨_, _, _, _, rfl, rfl, idx3⟩
  · exact ⟨_, _, _, _, rfl, rfl, idx4⟩
theorem toListEq {T s : ByteArray} (h : lst T = lst s) : (T.toList == s.toList) = true := by rw [tl_eq, tl_eq]; simpa using h
theorem toListNe {T s : ByteArray} (h : ¬ lst T = lst s) : (T.toList == s.toList) = false := by rw [tl_eq, tl_eq]; simpa using h

/-- What loading the table gives. -/
def Entry (AR : Array Value) : Prop := ∀ k, k < 5 → ∃ (T : ByteArray) (m : Int) (a b : Bool), nv k = #[.string T, .int .i64 m, .bool a, .bool b] ∧ lst T = wordS k ∧
    ∀ w, (Instr.index 86 (Value.agg AR) (Value.int IntKind.i64 (k : Int))).run Tryd.prog w = .ok (Value.agg #[.string T, .int .i64 m, .bool a, .bool b]) w
theorem load_names {w : World} (hT : Names w) : ∃ L : List Value, Hid (Entry L.toArray) ∧ w.rangeAt 1 0 L ∧ (Tryd.prog.info? 86).map (·.size) = some L.length :=
  ⟨nameCells, hid idx_any, fun j v h => by rw [Nat.zero_add]; exact hT j v h, by kernel_rfl⟩

set_option maxHeartbeats 4000000 in
set_option maxRecDepth 100000 in
theorem setOf_any (s : ByteArray) (n : Nat) (h1 : 1 ≤ n) (h2 : n ≤ 20) (w : World) (hT : Names w) :
    Calls Tryd.prog 70 #[.string s, .int .i64 (n : Int)] w fun e w' => e = .returned (.tuple #[.int .i64 ((setOfM (lst s) n).1 : Nat), .bool (setOfM (lst s) n).2]) ∧ Below w.heap.size w w' := by
  obtain ⟨R, hR⟩ : ∃ R, setOfM (lst s) n = R := ⟨_, rfl⟩
  have HR := hid hR
  obtain ⟨L, hX, hL1, hL2⟩ := load_names hT
  have HL1 := hid hL1
  have HL2 := hid hL2
  clear hL1 hL2
  have cI := hid (fun k hk w => in_any k n hk h1 h2 w)
  rw [hR]
  clear hR hT
  go_enter Tryd.func70, Tryd.ntmps70
  go_wp2_with (refine wpList_load_mid rfl 86 _ rfl 1 0 rfl L _ HL1.out Tryd.underlying86 rfl HL2.out ?_)
  generalize L.toArray = AR at hX ⊢
  clear HL1 HL2
  go_loopw [9] (fun iv wr => ∃ k : Nat, iv = .int .i64 (k : Int) ∧ k ≤ 5 ∧ Hid (∀ i, i < k → wordS i ≠ lst s) ∧ Hid (Below w.heap.size w wr)) (fun iv _ => 5 - (RowKit.intOf iv).toNat)
  case atStart => exact ⟨0, rfl, by omega, hid (fun i hi => absurd hi (by omega)), hid (Below.refl _ _)⟩
  case round =>
    obtain ⟨k, rfl, hk, hne, hB⟩ := hrel
    by_cases hlt : k < 5
    · have hltz : (k : Int) < 5 := by omega
      have HB2 : Hid (∀ o : Obj, Below w.heap.size w (wr.alloc o)) := hid (fun o => hB.out.alloc hB.out.size o)
      obtain ⟨T, m, a, b, hnv, hTw, hix⟩ := hX.out k hlt
      have HN := hid hnv
      have HTW := hid hTw
      clear hnv hTw
      by_cases hw : lst T = lst s
      · have hr : R = (nmM k n, true) := by
          rw [← HR.out]
          unfold setOfM
          rw [kindOf_some hlt (HTW.out.symm.trans hw)]
        subst hr
        have he := toListEq hw
        have cJ := hid (fun w => by have := cI.out k hlt w; rw [HN.out] at this; exact this)
        clear hw HR
        go_wp2_with fail
        refine (cJ.out _).mono ?_
        rintro e w3 ⟨rfl, hb3⟩
        have HB3 := hid ((HB2.out _).trans (hb3.mono (HB2.out _).size))
        clear hb3
        go_wp2
        go_ret2
        exact ⟨rfl, HB3.out⟩
      · have hnx : Hid (∀ i, i < k + 1 → wordS i ≠ lst s) := hid (fun i hi => by
          rcases Nat.lt_or_ge i k with h | h
          · exact hne.out i h
          · obtain rfl : i = k := by omega
            exact fun e => hw (HTW.out.trans e))
        have he := toListNe hw
        clear hw
        go_wp2
        go_roundw
        case rel => exact ⟨k + 1, by go_num, by omega, hnx, hid (HB2.out _)⟩
        case measure => simp [RowKit.intOf]; omega
    · obtain rfl : k = 5 := by omega
      have hr : R = (0, false) := by
        rw [← HR.out]
        unfold setOfM
        rw [kindOf_none hne.out]
      subst hr
      go_wp2
      go_ret2
      exact ⟨rfl, hB.out⟩

theorem ba_of {T : ByteArray} {l : Str} (h : lst T = l) : T = ba l := by rw [← h, ba_lst]

end Go.Proofs.YtibbiddadkinhaaDoor

