/-
  Numbers with a width, and a code's last number: plain mathematics. No program, no conditions.
  What List gives for a range of made codes (a letter and a number with a width). Mathematics alone. Conditions: as the lemmas state.
  What Join makes of a list of codes, and that List reads it again. Mathematics alone. Conditions: as the lemmas state.
  Curricula as data: what is asked of one and of a list; their records. No program.
  Whether two lists of strings are equal: the reference's SameStrings. Conditions: both lie in memory.
  Curricula as they are made: nothing is wrong with them, and they are read as they were written. No program.
  That the specification finds equal lists of curricula equal. Conditions: the lists lie in memory.
-/
import Derived.Test.YtpaejkhaiifgdaaGreatDoorGN01
import Derived.Test.YtpaejkhaiifgdaaGreatDoorGN02
import Derived.Test.YtpaejkhaiifgdaaGreatDoorGN03
import Derived.Test.YtpaejkhaiifgdaaGreatDoorGN04
import Derived.Test.YtpaejkhaiifgdaaGreatDoorGN05
import Derived.Test.YtpaejkhaiifgdaaGreatDoorGN06
import Derived.Test.YtpaejkhaiifgdaaGreatDoorGN07
import Derived.Test.YtpaejkhaiifgdaaGreatDoorGN08
import Derived.Test.YtpaejkhaiifgdaaGreatDoorGN09
import Derived.Test.YtpaejkhaiifgdaaGreatDoorGN10
import Derived.Test.YtpaejkhaiifgdaaGreatDoorGN11
import Derived.Test.YtpaejkhaiifgdaaGreatDoorGN12
import Derived.Test.YtpaejkhaiifgdaaGreatDoorGN13
import Derived.Test.YtpaejkhaiifgdaaGreatDoorGN14
import Derived.Test.YtpaejkhaiifgdaaGreatDoorGN15
import Derived.Test.YtpaejkhaiifgdaaGreatDoorGN16
import Derived.Test.YtpaejkhaiifgdaaGreatDoorGN17
import Derived.Test.YtpaejkhaiifgdaaGreatDoorGN18
import Derived.Lib.Bytealg
import Derived.Lib.ItoaNum
import Derived.Lib.Atoi
import Derived.Lib.SlTrimSet
import Derived.RangeFuncNested
import Derived.RangeFuncBound
import Derived.RangeFuncCalls
import Derived.RangeFuncLeaves
import Derived.Shelf.Abstract
import Derived.Shelf.RegionOpen
import Derived.OwnWalkIn
import Derived.Test.YtpaejkhaiifgdaaGreatDoorProg
import Derived.WalkKit
import Derived.WalkSpells
import Derived.WalkLawsBesides
import Derived.Lib.Hide
import Derived.Deep.QuietTactic
import Derived.BigQuiet
import Derived.Laws.Rows
import Derived.OwnWalk
import Derived.Lib.BufferWrite
import Derived.Lib.UnsafeStr
import Derived.Laws.IdiomStrings
import Derived.Laws.BytesArg
import Derived.Laws.BytesString
import Derived.Shelf.Strings.Builder1
import Derived.Shelf.Strings.Builder2
import Derived.Shelf.Strings.OnBuilder
import Derived.Shelf.Strings.Trim
import Derived.Shelf.Small.Utf8
import Derived.Shelf.Small.Strs
import Derived.Shelf.Strings.BuilderF
import Derived.Shelf.Strings.BuilderK
import Derived.Shelf.Strings.Builder2Cap
import Derived.Shelf.Strconv.Atoi
import Derived.Shelf.Strconv.Itoa0
import Derived.Shelf.Strconv.Itoa1
import Derived.Shelf.LaysM
import Derived.Shelf.Strconv.Itoa2
import Derived.Shelf.Strconv.Itoa3
import Derived.Shelf.Strconv.AtoiErrFast
import Derived.Shelf.Strconv.ParseIntEmpty
import Derived.Shelf.Strconv.AtoiFail
import Derived.Shelf.Strconv.Clone
import Derived.Shelf.Strconv.SyntaxError
import Derived.Shelf.LaysC
import Derived.Shelf.Strconv.ToError
import Derived.Shelf.Strconv.AtoiErr
import Derived.Shelf.Strings.Search1
import Derived.Shelf.Strings.Search2
import Derived.Shelf.Strings.Search3
import Derived.Shelf.Strings.Cut
import Derived.Shelf.Strings.Shaped
import Derived.Shelf.Strings.Prefix
import Derived.Shelf.Strings.Runes
import Derived.Shelf.Strings.AsciiSet
import Derived.Shelf.Bits.Mul64
import Derived.Shelf.Strings.Repeat
import Derived.Shelf.Unicode.DecodeSlow
import Derived.Shelf.Strings.BuilderCap
import Derived.Shelf.Slices.Turned
import Derived.Shelf.Strings.SlTrimAscii
import Derived.Lib.AtoiErrMem
import Derived.Handy
import Derived.Laws.ResultCell
import Derived.RegionTactic
import Derived.Lib.Repeat
import Derived.Deep.RegionHeld3
import Derived.Laws.OwnMore
import Derived.Lib.SlicesS
import Derived.Lib.IndexLaws
import Derived.TacticsInMore
import Derived.LoopNIn
import Derived.LoopIn
import Derived.Laws.AppendOwn
import Derived.IntWalk
import Derived.Maps.OwnSet
import Derived.Maps.Range
import Derived.Deep.RegionLaw
import Derived.Laws.BitsAllLaws
import Derived.Laws.BitsLemmas
import Derived.Maps.AppendAt
import Derived.Deep.DeepCutAuto
import Derived.Deep.CutBlock
import Derived.OneCell
import Derived.Laws.Tables
import Derived.Laws.CopyOwn
import Derived.OrdersHeld
import Derived.Deep.AppendLies
set_option linter.unusedVariables false
namespace Go.Proofs.YtpaejkhaiifgdaaGreatDoor.S3
open Go Go.Lib

theorem numN_snoc (l : Str) (c : UInt8) : numN (l ++ [c]) = 10 * numN l + (c.toNat - 48) := by simp [numN]
theorem ofNat_val {d : Nat} (h : d < 10) : (UInt8.ofNat (48 + d)).toNat = 48 + d := by
  simp
  omega
theorem dg_ofNat {d : Nat} (h : d < 10) : dg (UInt8.ofNat (48 + d)) = true := by
  unfold dg
  rw [ofNat_val h]
  simp
  omega
theorem dec_facts : ∀ (n u : Nat), u ≤ n → Dgs (decDigits u) ∧ numN (decDigits u) = u ∧ 1 ≤ (decDigits u).length
  | 0, u, h => by
    obtain rfl : u = 0 := by omega
    rw [dec_small (by omega)]
    refine ⟨fun c hc => ?_, rfl, by simp⟩
    obtain rfl : c = UInt8.ofNat (48 + 0) := by simpa using hc
    decide
  | n + 1, u, h => by
    by_cases hu : u < 10
    · rw [dec_small hu]
      refine ⟨fun c hc => ?_, ?_, by simp⟩
      · obtain rfl : c = UInt8.ofNat (48 + u) := by simpa using hc
        exact dg_ofNat hu
      · show 10 * 0 + ((UInt8.ofNat (48 + u)).toNat - 48) = u
        rw [ofNat_val hu]
        omega
    · obtain ⟨m, d, hm, hd, rfl⟩ : ∃ m d, 1 ≤ m ∧ d < 10 ∧ u = 10 * m + d := ⟨u / 10, u % 10, by omega, by omega, by omega⟩
      obtain ⟨h1, h2, h3⟩ := dec_facts n m (by omega)
      rw [dec_step m d hm hd]
      refine ⟨fun c hc => ?_, ?_, by simp⟩
      · rcases List.mem_append.1 hc with hc | hc
        · exact h1 c hc
        · obtain rfl : c = UInt8.ofNat (48 + d) := by simpa using hc
          exact dg_ofNat hd
      · rw [numN_snoc, h2, ofNat_val hd]
        omega
theorem dec_dgs (u : Nat) : Dgs (decDigits u) := (dec_facts u u (Nat.le_refl _)).1
theorem dec_num (u : Nat) : numN (decDigits u) = u := (dec_facts u u (Nat.le_refl _)).2.1
theorem dec_pos (u : Nat) : 1 ≤ (decDigits u).length := (dec_facts u u (Nat.le_refl _)).2.2
theorem num_zeros : ∀ (k : Nat) (l : Str), numN (zerosS k ++ l) = numN l
  | 0, l => rfl
  | k + 1, l => by
    have ih := num_zeros k l
    unfold numN zerosS at ih ⊢
    rw [List.replicate_succ]
    simpa using ih
theorem wr_num (n w : Nat) : numN (wrS n w) = n := by unfold wrS; rw [num_zeros, dec_num]
theorem wr_dgs (n w : Nat) : Dgs (wrS n w) := fun c hc => by
  rcases List.mem_append.1 hc with hc | hc
  · obtain rfl : c = 48 := List.eq_of_mem_replicate hc
    decide
  · exact dec_dgs n c hc
theorem wr_len (n w : Nat) : (wrS n w).length = max w (decDigits n).length := by
  unfold wrS zerosS
  rw [List.length_append, List.length_replicate]
  omega
theorem wr_ne (n w : Nat) : wrS n w ≠ [] := fun e => by
  have h1 := wr_len n w
  have h2 := dec_pos n
  rw [e] at h1
  simp at h1
  omega
/-! ### the last number of a code -/
theorem dropWhile_head {p : UInt8 → Bool} : ∀ (l : Str) (c : UInt8) (r : Str), l.dropWhile p = c :: r → p c = false
  | [], c, r, h => by simp at h
  | x :: l, c, r, h => by
    by_cases hx : p x = true
    · rw [List.dropWhile_cons_of_pos hx] at h
      exact dropWhile_head l c r h
    · rw [List.dropWhile_cons_of_neg hx] at h
      injection h with h _
      subst h
      simpa using hx
theorem pre_end (s p : Str) (c : UInt8) (h : preS s = p ++ [c]) : dg c = false := by
  unfold preS at h
  have := congrArg List.reverse h
  rw [List.reverse_reverse, List.reverse_append] at this
  exact dropWhile_head _ c _ this
theorem pre_app (p v : Str) (hv : Dgs v) (hp : ∀ q c, p = q ++ [c] → dg c = false) : preS (p ++ v) = p := by
  unfold preS
  rw [List.reverse_append, List.dropWhile_append_of_pos (fun x hx => hv x (by simpa using hx))]
  cases hr : p.reverse with
  | nil =>
    have : p = [] := by simpa using hr
    rw [this]
    rfl
  | cons c r =>
    have hpc : p = r.reverse ++ [c] := by
      have := congrArg List.reverse hr
      simpa using this
    rw [List.dropWhile_cons_of_neg (by rw [hp _ _ hpc]; simp)]
    rw [hpc]
    simp
theorem last_app (p v : Str) (hv : Dgs v) (hp : ∀ q c, p = q ++ [c] → dg c = false) : lastS (p ++ v) = v := by
  unfold lastS
  rw [pre_app p v hv hp]
  simp
end Go.Proofs.YtpaejkhaiifgdaaGreatDoor.S3

set_option linter.unusedVariables false
namespace Go.Proofs.YtpaejkhaiifgdaaGreatDoor.S3
open Go Go.Proofs Go.RowKit Go.Lib

theorem splitL_one : ∀ (l : Str), 59 ∉ l → splitL l = [l]
  | [], _ => rfl
  | c :: s, h => by
    have ih := splitL_one s (fun hm => h (.tail _ hm))
    unfold splitL
    rw [if_neg (fun e => h (by rw [e]; exact .head _)), ih]
    rfl
theorem index_dots (b : Str) : ∀ (a : Str), 46 ∉ a → index (a ++ 46 :: 46 :: b) [46, 46] = a.length
  | [], _ => by simp [index]
  | c :: a, h => by
    have ih := index_dots b a (fun hm => h (.tail _ hm))
    have hc : ¬ (46 : UInt8) = c := fun e => h (by rw [e]; exact .head _)
    show index (c :: (a ++ 46 :: 46 :: b)) [46, 46] = _
    unfold index
    rw [ih, if_neg (by simp [hc]), if_neg (by simp only [beq_iff_eq]; omega)]
    simp
theorem index_none : ∀ (b : Str), 46 ∉ b → index b [46, 46] = -1
  | [], _ => rfl
  | c :: b, h => by
    have ih := index_none b (fun hm => h (.tail _ hm))
    have hc : ¬ (46 : UInt8) = c := fun e => h (by rw [e]; exact .head _)
    unfold index
    rw [ih, if_neg (by simp [hc])]
    rfl
theorem cut_dots (a b : Str) (h : 46 ∉ a) : Lib.cut (a ++ 46 :: 46 :: b) dots2 = (a, b, true) := by
  unfold Lib.cut dots2
  rw [index_dots b a h, if_pos (by omega)]
  simp
end Go.Proofs.YtpaejkhaiifgdaaGreatDoor.S3

set_option linter.unusedVariables false
namespace Go.Proofs.YtpaejkhaiifgdaaGreatDoor.S3
open Go Go.Proofs Go.RowKit Go.Lib

def aheadGo (f : Str) : Nat → List Str → Nat
  | i, [] => i
  | i, c :: r => if c = nthS f i then aheadGo f (i + 1) r else i
/-- How many codes of a list are a range, from its first one on. -/
def aheadM (l : List Str) : Nat := match l with | [] => 0 | f :: r => if hasL f = true then aheadGo f 1 r else 1
theorem aheadGo_facts (f : Str) : ∀ (r : List Str) (i : Nat), i ≤ aheadGo f i r ∧ aheadGo f i r ≤ i + r.length ∧ ∀ j, j < aheadGo f i r - i → r[j]? = some (nthS f (i + j))
  | [], i => ⟨by simp [aheadGo], by simp [aheadGo], fun j hj => by simp [aheadGo] at hj⟩
  | c :: r, i => by
    by_cases h : c = nthS f i
    · have e : aheadGo f i (c :: r) = aheadGo f (i + 1) r := if_pos h
      obtain ⟨h1, h2, h3⟩ := aheadGo_facts f r (i + 1)
      rw [e]
      refine ⟨by omega, by simp; omega, fun j hj => ?_⟩
      match j with
      | 0 => simp [h]
      | j + 1 =>
        have := h3 j (by omega)
        rw [List.getElem?_cons_succ, this, show i + 1 + j = i + (j + 1) by omega]
    · have e : aheadGo f i (c :: r) = i := if_neg h
      rw [e]
      exact ⟨Nat.le_refl _, by simp, fun j hj => by omega⟩
theorem ahead_pos (f : Str) (r : List Str) : 1 ≤ aheadM (f :: r) ∧ aheadM (f :: r) ≤ r.length + 1 := by
  unfold aheadM
  simp only
  split
  · have := aheadGo_facts f r 1; omega
  · omega
theorem ahead_has (f : Str) (r : List Str) (h : 2 ≤ aheadM (f :: r)) : hasL f = true := by
  unfold aheadM at h
  simp only at h
  split at h
  · assumption
  · omega
theorem ahead_nth (f : Str) (r : List Str) (j : Nat) (h : j + 1 < aheadM (f :: r)) : r[j]? = some (nthS f (j + 1)) := by
  have hh := ahead_has f r (by omega)
  unfold aheadM at h
  simp only [hh, if_true] at h
  have := (aheadGo_facts f r 1).2.2 j (by omega)
  rw [this, Nat.add_comm]
theorem ahead_take (f : Str) (r : List Str) (n : Nat) (hn : 1 ≤ n) (h : n ≤ aheadM (f :: r)) : (f :: r).take n = expandL f n := by
  obtain ⟨m, rfl⟩ : ∃ m, n = m + 1 := ⟨n - 1, by omega⟩
  unfold expandL
  rw [List.take_succ_cons, show m + 1 - 1 = m by omega]
  congr 1
  have hl := (ahead_pos f r).2
  refine List.ext_getElem (by simp; omega) (fun j h1 h2 => ?_)
  have hj : j < m := by simp at h1; omega
  have := ahead_nth f r j (by omega)
  rw [List.getElem?_eq_getElem (by omega)] at this
  simp [Option.some.inj this]
theorem last_nth (f : Str) (d : Nat) : lastS (nthS f d) = wrS (numL f + d) (lastS f).length := by
  unfold nthS
  exact last_app _ _ (wr_dgs _ _) (fun q c h => pre_end f q c h)
theorem num_nth (f : Str) (d : Nat) : numL (nthS f d) = numL f + d := by
  unfold numL
  rw [last_nth, wr_num]
  rfl
theorem has_nth (f : Str) (d : Nat) : hasL (nthS f d) = true := by
  unfold hasL
  rw [last_nth]
  cases h : wrS (numL f + d) (lastS f).length with
  | nil => exact absurd h (wr_ne _ _)
  | cons c r => rfl
theorem range_nth (f : Str) (d : Nat) (h : hasL f = true) : rangeN f (nthS f d) = d + 1 := by
  unfold rangeN
  rw [if_pos ⟨h, has_nth _ _, by rw [num_nth]; omega, by rw [num_nth]; rfl⟩, num_nth]
  omega
theorem valid_mem {c : UInt8} {l : Str} (h : validC l = true) (hc : c ∈ l) : okC c = true := by
  unfold validC at h
  split at h
  · simp at hc
  · simp only [Bool.and_eq_true] at h
    exact List.all_eq_true.1 h.2 c hc
theorem valid_ne {l : Str} (h : validC l = true) : l ≠ [] := by
  rintro rfl
  simp [validC] at h
theorem valid_46 {l : Str} (h : validC l = true) : 46 ∉ l := fun hm => by have := valid_mem h hm; revert this; decide
theorem valid_59 {l : Str} (h : validC l = true) : 59 ∉ l := fun hm => by have := valid_mem h hm; revert this; decide

/-- The text of a range. -/
def rangeT (f : Str) (n : Nat) : Str := f ++ 46 :: 46 :: nthS f (n - 1)
/-- The parts of a list's text. -/
def joinP : Nat → List Str → List Str
  | 0, _ => []
  | _ + 1, [] => []
  | k + 1, f :: r => if 3 ≤ aheadM (f :: r) then rangeT f (aheadM (f :: r)) :: joinP k ((f :: r).drop (aheadM (f :: r))) else f :: joinP k r
theorem part_range (f : Str) (n : Nat) (m : Int) (hn : 1 ≤ n) (hm : (n : Int) ≤ m) (h : hasL f = true) (hf : validC f = true) (hl : validC (nthS f (n - 1)) = true) : partM (rangeT f n) m = (expandL f n, 0) := by
  have hc := cut_dots f (nthS f (n - 1)) (valid_46 hf)
  have hb : befP (rangeT f n) = f := by unfold befP rangeT; rw [hc]
  have ha : aftP (rangeT f n) = nthS f (n - 1) := by unfold aftP rangeT; rw [hc]
  have hi : isP (rangeT f n) = true := by unfold isP rangeT; rw [hc]
  have hq : nP (rangeT f n) = n := by unfold nP; rw [if_pos hi, hb, ha, range_nth _ _ h]; omega
  have hcon : Lib.contains (nthS f (n - 1)) dots2 = false := by
    unfold Lib.contains dots2
    rw [index_none _ (valid_46 hl)]
    rfl
  unfold partM
  rw [hb, ha, hi, hq, hf, hl, hcon, if_neg (by simp [rangeT]), if_neg (by simp), if_neg (by omega), if_neg (by omega)]
theorem cut_none (f : Str) (h : 46 ∉ f) : Lib.cut f dots2 = (f, [], false) := by
  unfold Lib.cut dots2
  rw [index_none f h, if_neg (by omega)]
theorem part_one (f : Str) (m : Int) (hm : 1 ≤ m) (hf : validC f = true) : partM f m = ([f], 0) := by
  have hc := cut_none f (valid_46 hf)
  have hb : befP f = f := by unfold befP; rw [hc]
  have ha : aftP f = [] := by unfold aftP; rw [hc]
  have hi : isP f = false := by unfold isP; rw [hc]
  have hq : nP f = 1 := by unfold nP; rw [hi]; rfl
  have hcon : Lib.contains [] dots2 = false := by decide
  unfold partM
  rw [hb, ha, hi, hq, hf, hcon, if_neg (by simp [valid_ne hf]), if_neg (by simp), if_neg (by omega), if_neg (by omega)]
  rfl
theorem list_parts : ∀ (k : Nat) (l : List Str) (acc : List Str), l.length ≤ k → (∀ c ∈ l, validC c = true) → acc.length + l.length ≤ 64 → listGo (joinP k l) acc = (acc ++ l, 0)
  | 0, l, acc, hk, _, _ => by
    obtain rfl : l = [] := List.eq_nil_of_length_eq_zero (by omega)
    simp [joinP, listGo]
  | k + 1, [], acc, _, _, _ => by simp [joinP, listGo]
  | k + 1, f :: r, acc, hk, hv, h64 => by
    have hp := ahead_pos f r
    simp only [List.length_cons] at hk h64
    unfold joinP
    by_cases h3 : 3 ≤ aheadM (f :: r)
    · rw [if_pos h3]
      obtain ⟨n, hn⟩ : ∃ n, aheadM (f :: r) = n := ⟨_, rfl⟩
      have htk := ahead_take f r (aheadM (f :: r)) hp.1 (Nat.le_refl _)
      have hnv : validC (nthS f (aheadM (f :: r) - 1)) = true := by
        have := ahead_nth f r (aheadM (f :: r) - 2) (by omega)
        rw [show aheadM (f :: r) - 2 + 1 = aheadM (f :: r) - 1 by omega] at this
        exact hv _ (List.mem_cons_of_mem _ (List.mem_of_getElem? this))
      have hpr := part_range f (aheadM (f :: r)) (64 - (acc.length : Int)) (by omega) (by omega) (ahead_has f r (by omega)) (hv f (.head _)) hnv
      rw [hn] at htk hpr h3 hp ⊢
      have hdl : ((f :: r).drop n).length = r.length + 1 - n := by simp
      have ih := list_parts k ((f :: r).drop n) (acc ++ expandL f n) (by omega) (fun c hc => hv c (List.mem_of_mem_drop hc)) (by rw [List.length_append, expandL_len _ _ (by omega)]; omega)
      simp only [listGo, hpr]
      rw [if_neg (by simp), ih, ← htk, List.append_assoc, List.take_append_drop]
    · rw [if_neg h3]
      have hpo := part_one f (64 - (acc.length : Int)) (by omega) (hv f (.head _))
      have ih := list_parts k r (acc ++ [f]) (by omega) (fun c hc => hv c (.tail _ hc)) (by simp; omega)
      simp only [listGo, hpo]
      rw [if_neg (by simp), ih]
      simp
theorem parts_59 : ∀ (k : Nat) (l : List Str), (∀ c ∈ l, validC c = true) → ∀ p ∈ joinP k l, 59 ∉ p
  | 0, l, _, p, hp => by simp [joinP] at hp
  | k + 1, [], _, p, hp => by simp [joinP] at hp
  | k + 1, f :: r, hv, p, hp => by
    unfold joinP at hp
    split at hp
    · rename_i h3
      rcases List.mem_cons.1 hp with rfl | hp
      · have hnv : validC (nthS f (aheadM (f :: r) - 1)) = true := by
          have := ahead_nth f r (aheadM (f :: r) - 2) (by omega)
          rw [show aheadM (f :: r) - 2 + 1 = aheadM (f :: r) - 1 by omega] at this
          exact hv _ (List.mem_cons_of_mem _ (List.mem_of_getElem? this))
        intro hm
        unfold rangeT at hm
        rcases List.mem_append.1 hm with hm | hm
        · exact valid_59 (hv f (.head _)) hm
        · rcases List.mem_cons.1 hm with hm | hm
          · revert hm; decide
          · rcases List.mem_cons.1 hm with hm | hm
            · revert hm; decide
            · exact valid_59 hnv hm
      · exact parts_59 k _ (fun c hc => hv c (List.mem_of_mem_drop hc)) p hp
    · rcases List.mem_cons.1 hp with rfl | hp
      · exact valid_59 (hv p (.head _))
      · exact parts_59 k r (fun c hc => hv c (.tail _ hc)) p hp
/-- Parts with semicolons between. -/
def semi : List Str → Str
  | [] => []
  | [p] => p
  | p :: q :: r => p ++ 59 :: semi (q :: r)
theorem split_cons (rest : Str) : ∀ (p : Str), 59 ∉ p → splitL (p ++ 59 :: rest) = p :: splitL rest
  | [], _ => by
    show splitL (59 :: rest) = _
    conv => lhs; unfold splitL
    rw [if_pos rfl]
  | c :: p, h => by
    have ih := split_cons rest p (fun hm => h (.tail _ hm))
    show splitL (c :: (p ++ 59 :: rest)) = _
    conv => lhs; unfold splitL
    rw [if_neg (fun e => h (by rw [e]; exact .head _)), ih]
    rfl
theorem split_semi : ∀ (l : List Str), l ≠ [] → (∀ p ∈ l, 59 ∉ p) → splitL (semi l) = l
  | [], h, _ => absurd rfl h
  | [p], _, h => splitL_one p (h p (.head _))
  | p :: q :: r, _, h => by
    have ih := split_semi (q :: r) (by simp) (fun x hx => h x (.tail _ hx))
    show splitL (p ++ 59 :: semi (q :: r)) = _
    rw [split_cons _ _ (h p (.head _)), ih]
/-- The text of a list of codes. -/
def joinM (l : List Str) : Str := semi (joinP l.length l)
theorem checkGo_valid : ∀ (r seen : List Str), checkGo seen r = 0 → ∀ c ∈ r, validC c = true
  | [], _, _, c, hc => by simp at hc
  | d :: r, seen, h, c, hc => by
    unfold checkGo at h
    split at h
    · simp at h
    · rename_i h1
      split at h
      · simp at h
      · rcases List.mem_cons.1 hc with rfl | hc
        · simpa using h1
        · exact checkGo_valid r _ h c hc
theorem check_valid {l : List Str} (h : checkM l = 0) : l.length ≤ 64 ∧ ∀ c ∈ l, validC c = true := by
  unfold checkM at h
  split at h
  · simp at h
  · exact ⟨by omega, checkGo_valid _ _ h⟩
/-- What was joined is listed again. -/
theorem list_join (l : List Str) (h : checkM l = 0) : listM (joinM l) = (l, 0) := by
  obtain ⟨h64, hv⟩ := check_valid h
  match l, h, h64, hv with
  | [], _, _, _ => rfl
  | f :: r, h, h64, hv =>
    have hne : joinP (f :: r).length (f :: r) ≠ [] := by
      show joinP (r.length + 1) (f :: r) ≠ []
      unfold joinP
      split <;> simp
    have hsp : splitL (joinM (f :: r)) = joinP (f :: r).length (f :: r) := split_semi _ hne (parts_59 _ _ hv)
    have hgo := list_parts (f :: r).length (f :: r) [] (Nat.le_refl _) hv (by simpa using h64)
    have hjn : joinM (f :: r) ≠ [] := by
      intro e
      have h2 := hsp
      rw [e] at h2
      have h3 : splitL [] = [[]] := rfl
      rw [h3] at h2
      have h4 := hgo
      rw [← h2] at h4
      have h5 : partM [] (64 - (([] : List Str).length : Int)) = ([], 4) := rfl
      simp only [listGo, h5] at h4
      rw [if_pos (by simp)] at h4
      simp at h4
    unfold listM
    rw [if_neg hjn, hsp, hgo, if_neg (by simp)]
    simp only [List.nil_append]
    rw [if_neg (by rw [h]; simp)]
end Go.Proofs.YtpaejkhaiifgdaaGreatDoor.S3

set_option linter.unusedVariables false
namespace Go.Proofs.YtpaejkhaiifgdaaGreatDoor.S11
open Go Go.Proofs Go.RowKit Go.Lib Go.Proofs.YtpaejkhaiifgdaaGreatDoor

/-- The first error of a curriculum alone. -/
def currM (x : CurrD) : Int :=
  if S3.validC x.1 = false then 10 else if x.2.length = 0 then 16 else if 8 < x.2.length then 2 else S3.checkM x.2
def goU : List Str → List CurrD → Int
  | _, [] => 0
  | seen, r :: rs => if currM r ≠ 0 then currM r else if r.1 ∈ seen then 11 else goU (seen ++ [r.1]) rs
/-- The first error of curricula. -/
def validU (l : List CurrD) : Int := if 16 < l.length then 2 else goU [] l
theorem goU_step (l : List CurrD) (i : Nat) (h : i < l.length) :
    goU (codesU (l.take i)) (l.drop i) = if currM l[i] ≠ 0 then currM l[i] else if l[i].1 ∈ codesU (l.take i) then 11 else goU (codesU (l.take (i + 1))) (l.drop (i + 1)) := by
  have e : codesU (l.take i ++ [l[i]]) = codesU (l.take i) ++ [l[i].1] := by unfold codesU; rw [List.map_append]; rfl
  rw [List.drop_eq_getElem_cons h, goU, List.take_succ_eq_append_getElem h, e]
def rowU (x : CurrD) : List Str := [x.1, S3.joinM x.2]
def writeU (l : List CurrD) : List (List Str) × Int := if validU l ≠ 0 then ([], validU l) else (l.map rowU, 0)
theorem goU_ok : ∀ (l : List CurrD) (seen : List Str), goU seen l = 0 → ∀ r ∈ l, currM r = 0
  | [], _, _, r, hr => by simp at hr
  | x :: xs, seen, h, r, hr => by
    unfold goU at h
    by_cases h1 : currM x = 0
    · rw [if_neg (by simpa using h1)] at h
      split at h
      · simp at h
      · rcases List.mem_cons.1 hr with rfl | hr
        · exact h1
        · exact goU_ok xs _ h r hr
    · rw [if_pos h1] at h
      exact absurd h h1
theorem validU_ok {l : List CurrD} (h : validU l = 0) : l.length ≤ 16 ∧ ∀ r ∈ l, currM r = 0 := by
  unfold validU at h
  split at h
  · simp at h
  · exact ⟨by omega, goU_ok l [] h⟩
theorem currM_all {x : CurrD} (h : currM x = 0) : S3.validC x.1 = true ∧ 0 < x.2.length ∧ x.2.length ≤ 8 ∧ S3.checkM x.2 = 0 := by
  unfold currM at h
  cases hv : S3.validC x.1 with
  | false => rw [if_pos hv] at h; simp at h
  | true =>
    rw [if_neg (by simp [hv])] at h
    by_cases h1 : x.2.length = 0
    · rw [if_pos h1] at h; simp at h
    · rw [if_neg h1] at h
      by_cases h2 : 8 < x.2.length
      · rw [if_pos h2] at h; simp at h
      · rw [if_neg h2] at h
        exact ⟨rfl, by omega, by omega, h⟩
theorem currM_code {x : CurrD} (h : currM x = 0) : S3.validC x.1 = true := (currM_all h).1
theorem currM_of {x : CurrD} (h1 : S3.validC x.1 = true) (h2 : 0 < x.2.length) (h3 : x.2.length ≤ 8) (h4 : S3.checkM x.2 = 0) : currM x = 0 := by
  unfold currM
  rw [if_neg (by simp [h1]), if_neg (by omega), if_neg (by omega)]
  exact h4
end Go.Proofs.YtpaejkhaiifgdaaGreatDoor.S11

set_option linter.unusedVariables false
namespace Go.Proofs.YtpaejkhaiifgdaaGreatDoor.S3
open Go Go.Proofs Go.RowKit Go.Lib

theorem drewN_heap (w : World) : ∀ (q b : Nat), (w.drewN q).heap[b]? = w.heap[b]?
  | 0, _ => rfl
  | q + 1, b => drewN_heap w q b
theorem take_eq_succ (la lb : List Str) (i : Nat) (hi : i < la.length) (hl : la.length = lb.length) (h : la.take i = lb.take i) : (la.take (i + 1) = lb.take (i + 1)) ↔ la[i] = lb[i]'(by omega) := by
  rw [List.take_add_one, List.take_add_one, List.getElem?_eq_getElem hi, List.getElem?_eq_getElem (show i < lb.length by omega), h]
  constructor
  · intro e
    simpa using List.append_cancel_left e
  · intro e
    rw [e]

set_option maxHeartbeats 2000000 in
set_option maxRecDepth 100000 in
theorem sameStrings_any (A A' : Option Addr) (la lb : List Str) (ca cb : Nat) (P P' : Nat → Prop) (w : World) (ha : StrsIn w P A la) (hb : StrsIn w P' A' lb) (h63 : la.length ≤ 9223372036854775807) :
    Calls Tryz.prog 46 #[.slice A la.length ca, .slice A' lb.length cb] w fun e w' => e = .returned (.bool (decide (la = lb))) ∧ ∃ q, w' = w.drewN q := by
  by_cases hl : la.length = lb.length
  · have hlz : ((la.length : Int) != (lb.length : Int)) = false := by simp [hl]
    obtain ⟨ANS, hANS⟩ : ∃ ANS, decide (la = lb) = ANS := ⟨_, rfl⟩
    rw [hANS]
    have HA := hid ha
    have HB := hid hb
    have HL := hid hl
    have HANS := hid hANS
    clear ha hb hl hANS
    go_enter Tryz.func46, Tryz.ntmps46
    go_wp2
    go_loopw [5] (fun iv wr => ∃ i : Nat, iv = .int .i64 (i : Int) ∧ i ≤ la.length ∧ Hid (la.take i = lb.take i) ∧ ∃ q, wr = w.drewN q) (fun iv _ => la.length - (RowKit.intOf iv).toNat)
    case atStart => exact ⟨0, rfl, Nat.zero_le _, hid rfl, 0, rfl⟩
    case round =>
      obtain ⟨i, rfl, hi, ht, q, rfl⟩ := hrel
      by_cases hlt : i < la.length
      · have hltz : (i : Int) < (la.length : Int) := by omega
        have hlt' : i < lb.length := by rw [← HL.out]; exact hlt
        have hltz' : (i : Int) < (lb.length : Int) := by omega
        obtain ⟨b1, o1, rfl, _, hc1⟩ := HA.out.at_ hlt
        obtain ⟨b2, o2, rfl, _, hc2⟩ := HB.out.at_ hlt'
        have hiff := take_eq_succ la lb i hlt HL.out ht.out
        obtain ⟨x, hx⟩ : ∃ x, la[i] = x := ⟨_, rfl⟩
        obtain ⟨y, hy⟩ : ∃ y, lb[i] = y := ⟨_, rfl⟩
        rw [hx] at hc1 hiff
        rw [hy] at hc2 hiff
        obtain ⟨X, hX⟩ : ∃ X : ByteArray, (⟨x.toArray⟩ : ByteArray) = X := ⟨_, rfl⟩
        obtain ⟨Y, hY⟩ : ∃ Y : ByteArray, (⟨y.toArray⟩ : ByteArray) = Y := ⟨_, rfl⟩
        have hXl : X.toList = x := by rw [Lib.toList_data, ← hX]
        have hYl : Y.toList = y := by rw [Lib.toList_data, ← hY]
        have e1 : strV x = .string X := by rw [← hX]; rfl
        have e2 : strV y = .string Y := by rw [← hY]; rfl
        rw [e1] at hc1
        rw [e2] at hc2
        have HIFF := hid hiff
        have HX := hid hx
        have HY := hid hy
        by_cases hxy : x = y
        · have hbe : (X.toList != Y.toList) = false := by rw [hXl, hYl, hxy]; simp
          have hbe2 : (X.toList == Y.toList) = true := by rw [hXl, hYl, hxy]; simp
          clear hiff hx hy hX hY hXl hYl e1 e2
          go_wp2
          go_quiet (fail)
          go_wp2
          go_roundw
          case rel => exact ⟨i + 1, by go_num, by omega, hid (HIFF.out.2 hxy), q + nq, rfl⟩
          case measure => simp [RowKit.intOf]; omega
        · have hbe : (X.toList != Y.toList) = true := by rw [hXl, hYl]; simpa using hxy
          have hbe2 : (X.toList == Y.toList) = false := by rw [hXl, hYl]; simpa using hxy
          have hf : ANS = false := by
            rw [← HANS.out]
            apply decide_eq_false
            intro e
            subst e
            exact hxy (by rw [← HX.out, ← HY.out])
          subst hf
          clear hiff hx hy hX hY hXl hYl e1 e2
          go_wp2
          go_quiet (fail)
          go_wp2
          go_ret
          exact ⟨rfl, q + nq, by rw [World.drewN_drewN]⟩
      · have hltz : ¬ (i : Int) < (la.length : Int) := by omega
        have hf : ANS = true := by
          rw [← HANS.out]
          apply decide_eq_true
          have h := ht.out
          rwa [List.take_of_length_le (by omega), List.take_of_length_le (by have := HL.out; omega)] at h
        subst hf
        go_wp2
        go_ret
        exact ⟨rfl, q, rfl⟩
  · have hlz : ((la.length : Int) != (lb.length : Int)) = true := by simp; omega
    have hf : decide (la = lb) = false := decide_eq_false (fun e => hl (by rw [e]))
    rw [hf]
    clear ha hb
    go_enter Tryz.func46, Tryz.ntmps46
    go_wp2
    go_ret
    exact ⟨rfl, 0, rfl⟩
end Go.Proofs.YtpaejkhaiifgdaaGreatDoor.S3

set_option linter.unusedVariables false
set_option maxRecDepth 100000
namespace Go.Proofs.YtpaejkhaiifgdaaGreatDoor.S11
open Go Go.Proofs Go.RowKit Go.Lib Go.Proofs.YtpaejkhaiifgdaaGreatDoor Go.Proofs.YtpaejkhaiifgdaaGreatDoor.S10

theorem colsM_memU : ∀ (c : Int) (l : List Str) (f : FieldD), f ∈ colsM c l → f.1 ∈ l
  | c, [], f, h => by simp [colsM] at h
  | c, s :: r, f, h => by
    simp only [colsM, List.mem_cons] at h
    rcases h with rfl | h
    · simp
    · exact List.mem_cons_of_mem _ (colsM_memU _ r f h)
theorem plainM_memU {l : List (List Str)} {x : RecD} (h : x ∈ plainM l) : ∀ f ∈ x.2, ∃ r ∈ l, f.1 ∈ r := by
  unfold plainM at h
  obtain ⟨i, hi, rfl⟩ := List.mem_mapIdx.1 h
  exact fun f hf => ⟨l[i], List.getElem_mem hi, colsM_memU _ _ f hf⟩
theorem course_pick (l : List Str) (h : l.Nodup) (hm : ∀ s ∈ l, s = courseS 0 ∨ s = courseS 1 ∨ s = courseS 2) : S3.checkM l = 0 ∧ (S3.joinM l).length ≤ 20 ∧ l.length ≤ 3 := by
  match l, h, hm with
  | [], _, _ => exact ⟨rfl, by decide, by decide⟩
  | [a], h, hm =>
    rcases hm a (by simp) with rfl | rfl | rfl <;> exact ⟨by decide +kernel, by decide +kernel, by simp⟩
  | [a, b], h, hm =>
    rcases hm a (by simp) with rfl | rfl | rfl <;> rcases hm b (by simp) with rfl | rfl | rfl <;> first | exact ⟨by decide +kernel, by decide +kernel, by simp⟩ | (exfalso; simp at h)
  | [a, b, c], h, hm =>
    rcases hm a (by simp) with rfl | rfl | rfl <;> rcases hm b (by simp) with rfl | rfl | rfl <;> rcases hm c (by simp) with rfl | rfl | rfl <;> first | exact ⟨by decide +kernel, by decide +kernel, by simp⟩ | (exfalso; simp at h)
  | a :: b :: c :: d :: r, h, hm =>
    exfalso
    rcases hm a (by simp) with rfl | rfl | rfl <;> rcases hm b (by simp) with rfl | rfl | rfl <;> rcases hm c (by simp) with rfl | rfl | rfl <;> rcases hm d (by simp) with rfl | rfl | rfl <;> simp at h
theorem currs_made {d s : Int} {n : Nat} {nm : List Str} {cls : List ClassD} (hc : ClassesOk d s n nm cls) {ls : List CurrD} (h : CurrsOk (coursesOf cls) ls) {j : Nat} {x : CurrD} (hj : ls[j]? = some x) :
    x.1 = codeCS j ∧ currM x = 0 ∧ (S3.joinM x.2).length ≤ 20 := by
  have h3 := h.len
  have hlt : j < ls.length := (List.getElem?_eq_some_iff.1 hj).1
  obtain ⟨h1, h2, hsub⟩ := h.at_ j x hj
  have hgo := coursesOf_go cls [] (by simp)
  have hp := course_pick x.2 (hsub.nodup hgo.1) (fun s hs => by
    rcases hgo.2.2 s (hsub.subset hs) with h | ⟨y, hy, rfl⟩
    · simp at h
    · obtain ⟨i, hi, rfl⟩ := List.mem_iff_getElem.1 hy
      obtain ⟨k, hk, e⟩ := (hc.at_ i _ (List.getElem?_eq_getElem hi)).course
      rw [e]
      rcases (show k = 0 ∨ k = 1 ∨ k = 2 by omega) with rfl | rfl | rfl
      · exact .inl rfl
      · exact .inr (.inl rfl)
      · exact .inr (.inr rfl))
  have hne : 0 < x.2.length := List.length_pos_iff.2 h2
  refine ⟨h1, currM_of ?_ hne (by omega) hp.1, hp.2.1⟩
  rw [h1]
  rcases (show j = 0 ∨ j = 1 ∨ j = 2 by omega) with rfl | rfl | rfl <;> decide +kernel
theorem entry_row {x : CurrD} (h : currM x = 0) : entryM (colsM 1 (rowU x)) = (x, 0, 0) := by
  obtain ⟨h1, h2, h3, h4⟩ := currM_all h
  have e : coursesM (S3.joinM x.2) = (x.2, 0) := by
    unfold coursesM
    rw [S3.list_join x.2 h4]
    rw [if_neg (by simp), if_neg (by simp; exact List.ne_nil_of_length_pos h2), if_neg (by simp; omega)]
  obtain ⟨c, cs⟩ := x
  dsimp only at h1 e
  unfold entryM rowU
  simp [colsM, efold, setF, zeroR, h1, e]
theorem recM_row {x : CurrD} (h : currM x = 0) (l : List CurrD) (bad : List ProbD) (i : Int) (hn : x.1 ∉ codesU l) (hl : l.length < 16) : recM (l, bad) (i, colsM 1 (rowU x)) = (l ++ [x], bad) := by
  unfold recM
  dsimp only
  rw [entry_row h]
  dsimp only
  have ha : addC l x.1 = 0 := by unfold addC; rw [if_neg hn, if_neg (by omega)]
  rw [if_neg (by simp), if_neg (by simp [ha])]
theorem currs_back {d s : Int} {n : Nat} {nm : List Str} {cls : List ClassD} (hc : ClassesOk d s n nm cls) {ls : List CurrD} (h : CurrsOk (coursesOf cls) ls) :
    validU ls = 0 ∧ recsM (plainM (ls.map rowU)) = (ls, []) ∧ ∀ r ∈ ls.map rowU, r.length = 2 ∧ ∀ x ∈ r, x.length ≤ 20 := by
  have h3 := h.len
  have hM : ∀ (j : Nat) (x : CurrD), ls[j]? = some x → x.1 = codeCS j ∧ currM x = 0 ∧ (S3.joinM x.2).length ≤ 20 := fun j x hj => currs_made hc h hj
  refine ⟨?_, ?_, fun r hr => ?_⟩
  · unfold validU
    rw [if_neg (by omega)]
    match ls, h3, hM with
    | [], _, _ => rfl
    | [x], _, hM =>
      have k0 := hM 0 x rfl
      simp [goU, k0.2.1]
    | [x, y], _, hM =>
      have k0 := hM 0 x rfl
      have k1 := hM 1 y rfl
      simp [goU, k0.2.1, k1.2.1, k0.1, k1.1, codeCS]
    | [x, y, z], _, hM =>
      have k0 := hM 0 x rfl
      have k1 := hM 1 y rfl
      have k2 := hM 2 z rfl
      simp [goU, k0.2.1, k1.2.1, k2.2.1, k0.1, k1.1, k2.1, codeCS]
    | _ :: _ :: _ :: _ :: _, h3, _ => exact absurd h3 (by simp)
  · unfold recsM plainM
    match ls, h3, hM with
    | [], _, _ => rfl
    | [x], _, hM =>
      have k0 := hM 0 x rfl
      simp only [List.map_cons, List.map_nil, List.mapIdx_cons, List.mapIdx_nil, List.foldl_cons, List.foldl_nil]
      rw [recM_row k0.2.1 _ _ _ (by simp [codesU]) (by simp)]
      rfl
    | [x, y], _, hM =>
      have k0 := hM 0 x rfl
      have k1 := hM 1 y rfl
      simp only [List.map_cons, List.map_nil, List.mapIdx_cons, List.mapIdx_nil, List.foldl_cons, List.foldl_nil]
      rw [recM_row k0.2.1 _ _ _ (by simp [codesU]) (by simp), recM_row k1.2.1 _ _ _ (by simp [codesU, k0.1, k1.1, codeCS]) (by simp)]
      rfl
    | [x, y, z], _, hM =>
      have k0 := hM 0 x rfl
      have k1 := hM 1 y rfl
      have k2 := hM 2 z rfl
      simp only [List.map_cons, List.map_nil, List.mapIdx_cons, List.mapIdx_nil, List.foldl_cons, List.foldl_nil]
      rw [recM_row k0.2.1 _ _ _ (by simp [codesU]) (by simp), recM_row k1.2.1 _ _ _ (by simp [codesU, k0.1, k1.1, codeCS]) (by simp), recM_row k2.2.1 _ _ _ (by simp [codesU, k0.1, k1.1, k2.1, codeCS]) (by simp)]
      rfl
    | _ :: _ :: _ :: _ :: _, h3, _ => exact absurd h3 (by simp)
  · obtain ⟨x, hx, rfl⟩ := List.mem_map.1 hr
    obtain ⟨j, hj, rfl⟩ := List.mem_iff_getElem.1 hx
    have k := hM j _ (List.getElem?_eq_getElem hj)
    refine ⟨rfl, fun y hy => ?_⟩
    simp only [rowU, List.mem_cons, List.not_mem_nil, or_false] at hy
    rcases hy with rfl | rfl
    · rw [k.1]
      simp [codeCS]
    · exact k.2.2
end Go.Proofs.YtpaejkhaiifgdaaGreatDoor.S11

set_option linter.unusedVariables false
namespace Go.Proofs.YtpaejkhaiifgdaaGreatDoor.S11
open Go Go.Proofs Go.RowKit Go.Lib Go.Proofs.YtpaejkhaiifgdaaGreatDoor

set_option maxHeartbeats 8000000 in
set_option maxRecDepth 100000 in
theorem usame_any (A A' : Option Addr) (l : List CurrD) (c c' : Nat) (P P' : Nat → Prop) (w : World) (h : CurrsIn w P A l) (h' : CurrsIn w P' A' l) (hl : l.length ≤ 9223372036854775807) :
    Calls Tryz.prog 18 #[.slice A l.length c, .slice A' l.length c'] w fun e w' => e = .returned (.bool true) ∧ ∃ q, w' = w.drewN q := by
  have H := hid h
  have H' := hid h'
  clear h h'
  go_enter Tryz.func18, Tryz.ntmps18
  go_wp2
  go_loopw [5] (fun i wr => ∃ k : Nat, i = .int .i64 (k : Int) ∧ k ≤ l.length ∧ Hid (∃ q, wr = w.drewN q)) (fun i _ => l.length - (RowKit.intOf i).toNat)
  case atStart => exact ⟨0, rfl, Nat.zero_le _, hid ⟨0, rfl⟩⟩
  case round =>
    obtain ⟨k, rfl, hk, HQ⟩ := hrel
    by_cases hlt : k < l.length
    · have hltz : (k : Int) < (l.length : Int) := by omega
      have hst : ∀ j, wr.heap[j]? = w.heap[j]? := fun j => by obtain ⟨q, hq⟩ := HQ.out; rw [hq, S3.drewN_heap]
      obtain ⟨b1, o1, ⟨fa1, fc1⟩, rfl, _, hr1, a0, a1⟩ := (H.out.kept (w' := wr) (fun b _ => hst b)).at_ hlt
      obtain ⟨b2, o2, ⟨fa2, fc2⟩, rfl, _, hr2, e0, e1⟩ := (H'.out.kept (w' := wr) (fun b _ => hst b)).at_ hlt
      have cS := fun q => S3.sameStrings_any fa1 fa2 l[k].2 l[k].2 fc1 fc2 _ _ (wr.drewN q) (hr1.t.kept (fun b _ => by rw [S3.drewN_heap])) (hr2.t.kept (fun b _ => by rw [S3.drewN_heap])) (Nat.le_trans hr1.t1 hr1.t2)
      simp only [decide_true] at cS
      obtain ⟨⟨cd, fs⟩, ht⟩ : ∃ t, l[k] = t := ⟨_, rfl⟩
      rw [ht] at a0 a1 e0 e1
      simp only [ht] at cS
      dsimp only at a0 a1 e0 e1
      obtain ⟨F, hF⟩ : ∃ F, fs.length = F := ⟨_, rfl⟩
      rw [hF] at a1 e1
      simp only [hF] at cS
      obtain ⟨C, hC⟩ : ∃ C, ba cd = C := ⟨_, rfl⟩
      rw [hC] at a0 e0
      have d1 : decide (l.length ≤ k) = false := decide_eq_false (by omega)
      have CS := hid cS
      clear ht hr1 hr2 hF hC cS hst
      go_wp2
      go_quiet ((go_at_call 46; with_reducible refine Calls.quiet_of (CS.out _)))
      go_wp2
      go_roundw
      case rel => exact ⟨k + 1, by go_num, by omega, hid (by obtain ⟨q, hq⟩ := HQ.out; exact ⟨q + nq, by rw [hq, World.drewN_drewN]⟩)⟩
      case measure => simp [RowKit.intOf]; omega
    · have hltz : ¬ (k : Int) < (l.length : Int) := by omega
      go_wp2
      go_ret
      exact ⟨rfl, HQ.out⟩
end Go.Proofs.YtpaejkhaiifgdaaGreatDoor.S11

