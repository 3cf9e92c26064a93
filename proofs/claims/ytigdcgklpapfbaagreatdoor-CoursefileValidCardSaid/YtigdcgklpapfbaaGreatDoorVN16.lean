/-
  Reading classes, as mathematics: parts, fields, entries, lists of records. No program.
  A class alone, lists of classes, what is written: mathematics. No program.
  Reading a number of at most four digits, zeros in front among them: ReadPadded of numerals. Condition: the library's variable holds an error.
  Small functions of coursefile: isLength, readLength, timeAt, isStart, compareStarts. Conditions: the variables hold what their text lays; numbers are ints.
  What holds while a list of times is read part by part; the text of such a list. Conditions: as stated.
-/
import Derived.Test.YtigdcgklpapfbaaGreatDoorVN01
import Derived.Test.YtigdcgklpapfbaaGreatDoorVN02
import Derived.Test.YtigdcgklpapfbaaGreatDoorVN03
import Derived.Test.YtigdcgklpapfbaaGreatDoorVN04
import Derived.Test.YtigdcgklpapfbaaGreatDoorVN05
import Derived.Test.YtigdcgklpapfbaaGreatDoorVN06
import Derived.Test.YtigdcgklpapfbaaGreatDoorVN07
import Derived.Test.YtigdcgklpapfbaaGreatDoorVN08
import Derived.Test.YtigdcgklpapfbaaGreatDoorVN09
import Derived.Test.YtigdcgklpapfbaaGreatDoorVN10
import Derived.Test.YtigdcgklpapfbaaGreatDoorVN11
import Derived.Test.YtigdcgklpapfbaaGreatDoorVN12
import Derived.Test.YtigdcgklpapfbaaGreatDoorVN13
import Derived.Test.YtigdcgklpapfbaaGreatDoorVN14
import Derived.Test.YtigdcgklpapfbaaGreatDoorVN15
import Derived.Test.YtigdcgklpapfbaaGreatDoorProg
import Derived.WalkKit
import Derived.WalkSpells
import Derived.WalkLawsBesides
import Derived.Lib.Hide
import Derived.Deep.QuietTactic
import Derived.BigQuiet
import Derived.Laws.Rows
import Derived.OwnWalk
import Derived.Lib.BufferWrite
import Derived.Lib.UnsafeStr
import Derived.Laws.IdiomStrings
import Derived.Laws.BytesArg
import Derived.Laws.BytesString
import Derived.Laws.OwnMore
import Derived.Lib.IndexLaws
import Derived.Lib.ItoaNum
import Derived.Lib.Atoi
import Derived.Laws.BitsAllLaws
import Derived.Laws.BitsLemmas
import Derived.Deep.MidRow
import Derived.Shelf.Strings.Builder1
import Derived.Shelf.Strings.Builder2
import Derived.Shelf.Strings.OnBuilder
import Derived.Shelf.Strings.Trim
import Derived.Shelf.Small.Bits
import Derived.Shelf.Small.Strs
import Derived.Shelf.Small.Wraps
import Derived.Shelf.Strings.BuilderF
import Derived.Shelf.Strings.BuilderK
import Derived.Shelf.Strings.Builder2Cap
import Derived.Shelf.Strconv.Atoi
import Derived.Shelf.Strconv.Itoa0
import Derived.Shelf.Strconv.Itoa1
import Derived.Shelf.LaysM
import Derived.Shelf.Strconv.Itoa2
import Derived.Shelf.Strconv.Itoa3
import Derived.Shelf.Strconv.AtoiErrFast
import Derived.Shelf.Strconv.ParseIntEmpty
import Derived.Shelf.Strconv.AtoiFail
import Derived.Shelf.Strconv.Clone
import Derived.Shelf.Strconv.SyntaxError
import Derived.Shelf.LaysC
import Derived.Shelf.Strconv.ToError
import Derived.Shelf.Strconv.AtoiErr
import Derived.Shelf.Strings.Search1
import Derived.Shelf.Strings.Search2
import Derived.Shelf.Strings.Search3
import Derived.Shelf.Strings.Cut
import Derived.Shelf.Strings.Shaped
import Derived.Shelf.Strings.Prefix
import Derived.Shelf.Strings.Runes
import Derived.Shelf.Strings.AsciiSet
import Derived.Shelf.Bits.Mul64
import Derived.Shelf.Strings.Repeat
import Derived.Shelf.Unicode.DecodeSlow
import Derived.Shelf.Strings.BuilderCap
import Derived.Shelf.Slices.Turned
import Derived.Ground.SlgfProg
import Derived.Shelf.SlicesE.IndexFunc
import Derived.Lib.AtoiErrMem
import Derived.Handy
import Derived.RangeFuncNested
import Derived.RangeFuncBound
import Derived.RangeFuncCalls
import Derived.RangeFuncLeaves
import Derived.Shelf.Abstract
import Derived.Shelf.RegionOpen
import Derived.OwnWalkIn
import Derived.Lib.Bytealg
import Derived.Lib.SlTrimSet
import Derived.Shelf.Strings.SlTrimAscii
import Derived.Laws.ResultCell
import Derived.RegionTactic
import Derived.Lib.Repeat
import Derived.Deep.RegionHeld3
import Derived.Lib.SlicesS
import Derived.TacticsInMore
import Derived.LoopNIn
import Derived.LoopIn
import Derived.Deep.DeepCutAuto
import Derived.Lib.Join
import Derived.Laws.Concat
import Derived.Maps.OwnSet
import Derived.Maps.Range
import Derived.Sort.EncStr
import Derived.Deep.RegionLaw
import Derived.Sort.Grow
set_option linter.unusedVariables false
namespace Go.Proofs.YtigdcgklpapfbaaGreatDoor.S10
open Go Go.Proofs Go.RowKit Go.Lib Go.Proofs.YtigdcgklpapfbaaGreatDoor

/-! ### parts -/
def partsGo {α : Type} (f : Str → α × Int) : List Str → List α → List α × Int
  | [], acc => (acc, 0)
  | p :: ps, acc => if (f p).2 ≠ 0 then ([], (f p).2) else partsGo f ps (acc ++ [(f p).1])
def partsM {α : Type} (f : Str → α × Int) (z : UInt8) (most : Nat) (x : Str) : List α × Int :=
  if (partsGo f (splitC z x) []).2 ≠ 0 then ([], (partsGo f (splitC z x) []).2)
  else if most < (partsGo f (splitC z x) []).1.length then ([], 2) else ((partsGo f (splitC z x) []).1, 0)
theorem partsGo_app {α : Type} (f : Str → α × Int) : ∀ (ps : List Str) (acc : List α) (qs : List Str), (partsGo f ps acc).2 = 0 → partsGo f (ps ++ qs) acc = partsGo f qs (partsGo f ps acc).1
  | [], acc, qs, _ => rfl
  | p :: ps, acc, qs, h => by
    simp only [partsGo, List.cons_append] at h ⊢
    by_cases hc : (f p).2 = 0
    · rw [if_neg (by simpa using hc)] at h ⊢
      rw [if_neg (by simpa using hc)]
      exact partsGo_app f ps _ qs h
    · rw [if_pos hc] at h
      exact absurd h hc
theorem partsGo_len {α : Type} (f : Str → α × Int) : ∀ (ps : List Str) (acc : List α), (partsGo f ps acc).2 = 0 → (partsGo f ps acc).1.length = acc.length + ps.length
  | [], acc, _ => by simp [partsGo]
  | p :: ps, acc, h => by
    simp only [partsGo] at h ⊢
    by_cases hc : (f p).2 = 0
    · rw [if_neg (by simpa using hc)] at h ⊢
      rw [partsGo_len f ps _ h]
      simp
      omega
    · rw [if_pos hc] at h
      exact absurd h hc
theorem partsM_most {α : Type} (f : Str → α × Int) (z : UInt8) (most : Nat) (x : Str) : (partsM f z most x).1.length ≤ most := by
  unfold partsM
  split
  · simp
  · split
    · simp
    · simp only; omega
/-- Two elements of a list are equal. -/
def dupB {α : Type} [DecidableEq α] (l : List α) : Bool := !decide l.Nodup
theorem nodup_take {α : Type} {l : List α} {i : Nat} (hi : i < l.length) (h : (l.take i).Nodup) : (l.take (i + 1)).Nodup ↔ l[i] ∉ l.take i := by
  rw [List.take_succ_eq_append_getElem hi, List.nodup_append]
  constructor
  · intro k hm
    exact k.2.2 _ hm _ (by simp) rfl
  · intro k
    refine ⟨h, by simp, fun a ha b hb e => ?_⟩
    rw [List.mem_singleton] at hb
    subst hb
    subst e
    exact k ha
theorem nodup_pre {α : Type} {l : List α} (i : Nat) (h : l.Nodup) : (l.take i).Nodup := h.sublist (List.take_sublist _ _)

/-! ### fields -/
def lenM (s : Int) (x : Str) : Int × Int := if smallN x = 0 then (0, 4) else if s < (smallN x : Int) then (0, 3) else ((smallN x : Int), 0)
def patM (n : Int) (p : Str) : Int × Int := (((parseM p n).1 : Nat), (parseM p n).2)
def patsM (n : Int) (x : Str) : List Int × Int :=
  if (partsM (patM n) 47 8 x).2 ≠ 0 then ([], (partsM (patM n) 47 8 x).2) else if dupB (partsM (patM n) 47 8 x).1 = true then ([], 11) else ((partsM (patM n) 47 8 x).1, 0)
/-- A number of at most four digits. -/
def numF (s : Str) : Int × Bool := if s ≠ [] ∧ s.length ≤ 4 ∧ s.all S3.dg = true then (((S3.numN s : Nat) : Int), true) else (0, false)
def seatsF (x : Str) : Int × Int := if (numF x).2 = false then (0, 4) else ((numF x).1, 0)
def startM (d s b m len : Int) (p : Str) : StartD × Int :=
  if smallN (aft 32 p) = 0 then ((0, 0), 4)
  else if (timeM d s b m 1 p).2 ≠ 0 then ((0, 0), (timeM d s b m 1 p).2)
  else if fitsM d s b m 1 1 (timeM d s b m 1 p).1.2.1 (timeM d s b m 1 p).1.2.2.1 len ≠ 0 then ((0, 0), 14)
  else (((timeM d s b m 1 p).1.2.1, (timeM d s b m 1 p).1.2.2.1), 0)
/-- By day, then by slot. -/
def leS (a b : StartD) : Bool := decide (a.1 < b.1 ∨ (a.1 = b.1 ∧ a.2 ≤ b.2))
def sortT (l : List StartD) : List StartD := l.mergeSort leS
theorem sortT_len (l : List StartD) : (sortT l).length = l.length := List.length_mergeSort l
def startsM (d s b m len : Int) (x : Str) : List StartD × Int :=
  if x = [] then ([], 0) else if (partsM (startM d s b m len) 59 24 x).2 ≠ 0 then ([], (partsM (startM d s b m len) 59 24 x).2)
  else if dupB (partsM (startM d s b m len) 59 24 x).1 = true then ([], 11) else (sortT (partsM (startM d s b m len) 59 24 x).1, 0)
def setF (d s b m n : Int) (i : Nat) (x : Str) (r : ClassD) : ClassD × Int :=
  match i with
  | 0 => if S3.validC x = true then ({ r with code := x }, 0) else ({ r with code := [] }, 10)
  | 1 => if S3.validC x = true then ({ r with course := x }, 0) else ({ r with course := [] }, 10)
  | 2 => if S3.validC x = true then ({ r with part := x }, 0) else ({ r with part := [] }, 10)
  | 3 => ({ r with len := (lenM s x).1 }, (lenM s x).2)
  | 4 => ({ r with pats := (patsM n x).1 }, (patsM n x).2)
  | 5 => ({ r with seats := (seatsF x).1 }, (seatsF x).2)
  | 6 => ({ r with feats := (featsM x).1 }, (featsM x).2)
  | 7 => ({ r with staff := (featsM x).1 }, (featsM x).2)
  | 8 => ({ r with starts := (startsM d s b m r.len x).1 }, (startsM d s b m r.len x).2)
  | _ => (r, 0)
def zeroC : ClassD := ⟨[], [], [], 0, [], 0, [], [], []⟩
def efold (d s b m n : Int) : List FieldD → Nat → ClassD → ClassD × Int × Int
  | [], _, r => (r, 0, 0)
  | f :: fs, i, r => if (setF d s b m n i f.1 r).2 ≠ 0 then ((setF d s b m n i f.1 r).1, f.2.1, (setF d s b m n i f.1 r).2) else efold d s b m n fs (i + 1) (setF d s b m n i f.1 r).1
/-- A class out of the fields of a record; the column of the field in question; the error. -/
def entryM (d s b m n : Int) (fs : List FieldD) : ClassD × Int × Int := if fs.length ≠ 9 then (zeroC, 0, 9) else efold d s b m n fs 0 zeroC
theorem efold_step (d s b m n : Int) (fs : List FieldD) (i : Nat) (h : i < fs.length) (r : ClassD) :
    efold d s b m n (fs.drop i) i r = if (setF d s b m n i fs[i].1 r).2 ≠ 0 then ((setF d s b m n i fs[i].1 r).1, fs[i].2.1, (setF d s b m n i fs[i].1 r).2) else efold d s b m n (fs.drop (i + 1)) (i + 1) (setF d s b m n i fs[i].1 r).1 := by
  rw [List.drop_eq_getElem_cons h, efold]
def codesK (l : List ClassD) : List Str := l.map (·.code)
def addC (l : List ClassD) (c : Str) : Int := if c ∈ codesK l then 11 else if l.length = 24 then 2 else 0
/-- One record more. -/
def recM (d s b m n : Int) (st : List ClassD × List ProbD) (x : RecD) : List ClassD × List ProbD :=
  if (entryM d s b m n x.2).2.2 ≠ 0 then (st.1, st.2 ++ [(x.1, (entryM d s b m n x.2).2.1, (entryM d s b m n x.2).2.2)])
  else if addC st.1 (entryM d s b m n x.2).1.code ≠ 0 then (st.1, st.2 ++ [(x.1, (entryM d s b m n x.2).2.1, addC st.1 (entryM d s b m n x.2).1.code)])
  else (st.1 ++ [(entryM d s b m n x.2).1], st.2)
def recsM (d s b m n : Int) (l : List RecD) : List ClassD × List ProbD := l.foldl (recM d s b m n) ([], [])
def readM (d s b m n : Int) (l : List RecD) : List ClassD × List ProbD := if frameB d s b m n = true then recsM d s b m n l else ([], [(0, 0, 1)])
theorem recsM_take (d s b m n : Int) (l : List RecD) (i : Nat) (h : i < l.length) : recsM d s b m n (l.take (i + 1)) = recM d s b m n (recsM d s b m n (l.take i)) l[i] := by
  unfold recsM
  rw [List.take_succ_eq_append_getElem h, List.foldl_append]
  rfl
theorem recM_room_len (d s b m n : Int) (st : List ClassD × List ProbD) (x : RecD) (h : st.1.length ≤ 24) : (recM d s b m n st x).1.length ≤ 24 := by
  unfold recM
  split
  · exact h
  · split
    · exact h
    · rename_i h2
      unfold addC at h2
      by_cases h3 : (entryM d s b m n x.2).1.code ∈ codesK st.1
      · rw [if_pos h3] at h2; simp at h2
      · rw [if_neg h3] at h2
        by_cases h4 : st.1.length = 24
        · rw [if_pos h4] at h2; simp at h2
        · simp; omega
theorem recsM_len (d s b m n : Int) (l : List RecD) : (recsM d s b m n l).1.length ≤ 24 := by
  unfold recsM
  have : ∀ (l : List RecD) (st : List ClassD × List ProbD), st.1.length ≤ 24 → (l.foldl (recM d s b m n) st).1.length ≤ 24 := by
    intro l
    induction l with
    | nil => exact fun st h => h
    | cons x r ih => exact fun st h => ih _ (recM_room_len d s b m n st x h)
  exact this l _ (by simp)
theorem recsM_probs (d s b m n : Int) (l : List RecD) : (recsM d s b m n l).2.length ≤ l.length := by
  unfold recsM
  have : ∀ (l : List RecD) (st : List ClassD × List ProbD), (l.foldl (recM d s b m n) st).2.length ≤ st.2.length + l.length := by
    intro l
    induction l with
    | nil => exact fun st => Nat.le_refl _
    | cons x r ih =>
      intro st
      rw [List.foldl_cons]
      refine Nat.le_trans (ih _) ?_
      have : (recM d s b m n st x).2.length ≤ st.2.length + 1 := by
        unfold recM
        split
        · simp
        · split <;> simp
      simp
      omega
  simpa using this l ([], [])
def addK (most : Nat) (l : List Str) (c : Str) : List Str × Int := if c ∈ l then (l, 11) else if l.length = most then (l, 2) else (l ++ [c], 0)
/-- The codes of the classes that were read, in the map's words. -/
theorem addM_codes (l : List ClassD) (c : Str) : (addK 24 (codesK l) c).2 = addC l c ∧ (addK 24 (codesK l) c).1 = if addC l c = 0 then codesK l ++ [c] else codesK l := by
  unfold addK addC
  have e : (codesK l).length = l.length := by simp [codesK]
  rw [e]
  by_cases h : c ∈ codesK l
  · rw [if_pos h, if_pos h]; simp
  · rw [if_neg h, if_neg h]
    by_cases h2 : l.length = 24
    · rw [if_pos h2, if_pos h2]; simp
    · rw [if_neg h2, if_neg h2]; simp
end Go.Proofs.YtigdcgklpapfbaaGreatDoor.S10

set_option linter.unusedVariables false
namespace Go.Proofs.YtigdcgklpapfbaaGreatDoor.S10
open Go Go.Proofs Go.RowKit Go.Lib Go.Proofs.YtigdcgklpapfbaaGreatDoor

def ltB (a b : StartD) : Bool := decide (a.1 < b.1 ∨ (a.1 = b.1 ∧ a.2 < b.2))
def okP : Option StartD → StartD → Bool
  | none, _ => true
  | some q, t => ltB q t
/-- Every start is f, and they ascend. -/
def startsGo (f : StartD → Bool) : Option StartD → List StartD → Bool
  | _, [] => true
  | p, t :: r => f t && okP p t && startsGo f (some t) r
def prevAt (l : List StartD) : Nat → Option StartD
  | 0 => none
  | k + 1 => l[k]?
theorem startsGo_bad (f : StartD → Bool) (l : List StartD) (i : Nat) (hi : i < l.length) (h : f l[i] = false) : startsGo f (prevAt l i) (l.drop i) = false := by
  rw [List.drop_eq_getElem_cons hi, startsGo, h]
  simp
theorem startsGo_zero (f : StartD → Bool) (l : List StartD) (hi : 0 < l.length) (h : f l[0] = true) : startsGo f (prevAt l 0) (l.drop 0) = startsGo f (prevAt l 1) (l.drop 1) := by
  rw [List.drop_eq_getElem_cons hi, startsGo, h]
  simp [prevAt, hi, okP]
theorem startsGo_succ (f : StartD → Bool) (l : List StartD) (k : Nat) (hi : k + 1 < l.length) (h : f l[k + 1] = true) : startsGo f (prevAt l (k + 1)) (l.drop (k + 1)) = (ltB (l[k]'(by omega)) l[k + 1] && startsGo f (prevAt l (k + 2)) (l.drop (k + 2))) := by
  rw [List.drop_eq_getElem_cons hi, startsGo, h]
  have e1 : prevAt l (k + 1) = some (l[k]'(by omega)) := List.getElem?_eq_getElem (by omega)
  have e2 : prevAt l (k + 2) = some l[k + 1] := List.getElem?_eq_getElem hi
  rw [e1, e2]
  simp [okP]
theorem startsGo_congr (f g : StartD → Bool) (h : ∀ t, f t = g t) : ∀ (p : Option StartD) (l : List StartD), startsGo f p l = startsGo g p l
  | _, [] => rfl
  | p, t :: r => by rw [startsGo, startsGo, h t, startsGo_congr f g h]
def fitS (d s b m len : Int) (t : StartD) : Bool := decide (fitsM d s b m 1 1 t.1 t.2 len = 0)
def startsB (d s b m len : Int) (l : List StartD) : Bool := startsGo (fitS d s b m len) none l
def patsB (n : Int) (l : List Int) : Bool := l.all (fun p => validM p n) && !dupB l
/-- The first error of a class alone. -/
def checkM (d s b m n : Int) (x : ClassD) : Int :=
  if S3.validC x.code = false ∨ S3.validC x.course = false ∨ S3.validC x.part = false then 10
  else if decide (1 ≤ x.len ∧ x.len ≤ s) = false then 3
  else if x.pats.length = 0 then 16
  else if 8 < x.pats.length then 2
  else if patsB n x.pats = false then 1
  else if x.seats < 0 ∨ 9999 < x.seats then 3
  else if 8 < x.feats.length ∨ 8 < x.staff.length then 2
  else if featB x.feats = false ∨ featB x.staff = false then 10
  else if 24 < x.starts.length then 2
  else if startsB d s b m x.len x.starts = false then 14
  else 0
def goK (d s b m n : Int) : List Str → List ClassD → Int
  | _, [] => 0
  | K, x :: r => if checkM d s b m n x ≠ 0 then checkM d s b m n x else if x.code ∈ K then 11 else goK d s b m n (K ++ [x.code]) r
theorem goK_step (d s b m n : Int) (l : List ClassD) (i : Nat) (hi : i < l.length) :
    goK d s b m n (codesK (l.take i)) (l.drop i) = if checkM d s b m n l[i] ≠ 0 then checkM d s b m n l[i] else if l[i].code ∈ codesK (l.take i) then 11 else goK d s b m n (codesK (l.take (i + 1))) (l.drop (i + 1)) := by
  rw [List.drop_eq_getElem_cons hi, goK]
  have e : codesK (l.take (i + 1)) = codesK (l.take i) ++ [l[i].code] := by rw [List.take_succ_eq_append_getElem hi]; unfold codesK; rw [List.map_append]; rfl
  rw [e]
/-- The first error of classes. -/
def validK (d s b m n : Int) (l : List ClassD) : Int := if frameB d s b m n = false then 1 else if 24 < l.length then 2 else goK d s b m n [] l
theorem checkM_code {d s b m n : Int} {x : ClassD} (h : checkM d s b m n x = 0) : S3.validC x.code = true := by
  unfold checkM at h
  by_cases hc : S3.validC x.code = false ∨ S3.validC x.course = false ∨ S3.validC x.part = false
  · rw [if_pos hc] at h; simp at h
  · simp only [not_or, Bool.not_eq_false] at hc
    exact hc.1
end Go.Proofs.YtigdcgklpapfbaaGreatDoor.S10

set_option linter.unusedVariables false
namespace Go.Proofs.YtigdcgklpapfbaaGreatDoor.S10
open Go Go.Proofs Go.RowKit Go.Lib Go.Proofs.YtigdcgklpapfbaaGreatDoor

theorem numF_rng (s : Str) : 0 ≤ (numF s).1 ∧ (numF s).1 < 10000 := by
  unfold numF
  split
  · rename_i h
    have h1 := S3.numN_lt s (List.all_eq_true.1 h.2.2)
    have h2 : 10 ^ s.length ≤ 10 ^ 4 := Nat.pow_le_pow_right (by omega) h.2.1
    have h3 : (10 : Nat) ^ 4 = 10000 := by decide
    refine ⟨by simp only; omega, ?_⟩
    simp only
    omega
  · simp
theorem decFrom_notF : ∀ (l : Str) (acc : Nat), l.all S3.dg = false → Lib.decFrom acc l = none
  | [], acc, h => by simp at h
  | c :: r, acc, h => by
    rw [Lib.decFrom]
    by_cases hc : S3.dg c = true
    · have h3 : 48 ≤ c.toNat ∧ c.toNat ≤ 57 := by simpa [S3.dg] using hc
      rw [show Lib.digitVal c = some (c.toNat - 48) by simp [Lib.digitVal, h3]]
      exact decFrom_notF r _ (by rw [List.all_cons, hc, Bool.true_and] at h; exact h)
    · have h3 : ¬ (48 ≤ c.toNat ∧ c.toNat ≤ 57) := by simpa [S3.dg] using hc
      rw [show Lib.digitVal c = none by simp [Lib.digitVal]; omega]
theorem atoi_numF (s : Str) (a : UInt8) (r : Str) (hs : s = a :: r) (hl : s.length ≤ 4) (h : 48 ≤ a.toNat) : Lib.atoi s = if (numF s).2 = false then none else some (numF s).1 := by
  subst hs
  by_cases hd : (a :: r).all S3.dg = true
  · have hN : numF (a :: r) = (((S3.numN (a :: r) : Nat) : Int), true) := if_pos ⟨by simp, hl, hd⟩
    rw [hN, if_neg (by simp)]
    exact S3.atoi_num _ (by simp) (List.all_eq_true.1 hd)
  · have hN : numF (a :: r) = (0, false) := if_neg (fun k => hd k.2.2)
    rw [hN, if_pos rfl]
    have e1 : (a == 45) = false := by
      rw [beq_eq_false_iff_ne]
      rintro rfl
      simp at h
    have e2 : (a == 43) = false := by
      rw [beq_eq_false_iff_ne]
      rintro rfl
      simp at h
    unfold Lib.atoi
    dsimp only
    rw [e1, e2, if_neg (by simp), if_neg (by simp)]
    unfold Lib.decNat
    rw [if_neg (by simp), decFrom_notF _ _ (by simpa using hd)]
    rfl
theorem numF_low {a : UInt8} {r : Str} (h : a.toNat < 48) : numF (a :: r) = (0, false) := by
  refine if_neg (fun k => ?_)
  have h1 : S3.dg a = true := (List.all_eq_true.1 k.2.2) a (by simp)
  have h3 : 48 ≤ a.toNat ∧ a.toNat ≤ 57 := by simpa [S3.dg] using h1
  omega
theorem numF_long {s : Str} (h : 4 < s.length) : numF s = (0, false) := if_neg (fun k => by omega)
theorem lst_nilF {s : ByteArray} (h : ¬ 0 < s.size) : lst s = [] := List.eq_nil_of_length_eq_zero (by rw [← Lib.size_eq]; omega)
set_option maxHeartbeats 2000000 in
/-- ReadPadded of numerals at four digits. -/
theorem padded4_any (s : ByteArray) (w : World) (hE : Env w) : Calls Tryz.prog 121 #[.string s, .int .i64 4] w fun e w' => e = .returned (.tuple #[.int .i64 (numF (lst s)).1, .bool (numF (lst s)).2]) ∧ Below w.heap.size w w' := by
  obtain ⟨⟨N, B⟩, hN⟩ : ∃ N, numF (lst s) = N := ⟨_, rfl⟩
  rw [hN]
  dsimp only
  by_cases h0 : 0 < s.size
  · obtain ⟨x1, x2, x3, x4⟩ := S3.str_no h0
    obtain ⟨r, hr⟩ := lst_cons h0
    by_cases h2 : s.size ≤ 4
    · have h2' : (s.size : Int) ≤ 4 := by omega
      have h2'' : ¬ (4 : Int) < s.size := by omega
      obtain ⟨a, ha⟩ : ∃ a, s[0]'h0 = a := ⟨_, rfl⟩
      rw [ha] at hr
      by_cases h3 : a.toNat < 48
      · have h3' : (a.toNat : Int) < 48 := by omega
        have : ((0 : Int), false) = (N, B) := by rw [← hN, hr, numF_low h3]
        obtain ⟨rfl, rfl⟩ := Prod.mk.inj this
        clear hN hr hE this
        go_enter Tryz.func121, Tryz.ntmps121
        go_wp2
        go_ret2
        exact ⟨rfl, Below.refl _ _⟩
      · have h3' : ¬ (a.toNat : Int) < 48 := by omega
        have hat := atoi_numF (lst s) a r hr (by rw [← Lib.size_eq]; exact h2) (by omega)
        have h00 : B = false → N = 0 := by
          intro hb
          subst hb
          unfold numF at hN
          split at hN
          · simp at hN
          · exact (Prod.mk.inj hN).1.symm
        have hrng := numF_rng (lst s)
        rw [hN] at hat hrng
        obtain ⟨ev, hev, hev2⟩ := hE.ev
        cases B with
        | false =>
          obtain rfl := h00 rfl
          rw [if_pos rfl] at hat
          have cA := hid (Tryz.strconv_Atoi_err s (by omega) hat ev w hev hev2)
          clear hN hr hE hat hev hev2 h00 hrng
          go_enter Tryz.func121, Tryz.ntmps121
          go_wp2_with fail
          refine cA.out.mono ?_
          rintro e w' ⟨M, rfl, _, _, hb⟩
          have HB := hid hb
          clear hb
          go_wp2
          go_ret2
          exact ⟨rfl, HB.out⟩
        | true =>
          rw [if_neg (by simp)] at hat
          have cA := hid (Tryz.strconv_Atoi s N (by omega) hat w)
          clear hN hr hE hat hev hev2 h00 hrng
          go_enter Tryz.func121, Tryz.ntmps121
          go_wp2_with fail
          refine cA.out.mono ?_
          rintro e w' ⟨rfl, t, hw⟩
          have HB : Hid (Below w.heap.size w w') := hid (by rw [hw]; exact Lib.bytesWorld_below _ _ _)
          clear hw
          go_wp2
          go_ret2
          exact ⟨rfl, HB.out⟩
    · have h2' : ¬ (s.size : Int) ≤ 4 := by omega
      have h2'' : (4 : Int) < s.size := by omega
      have : ((0 : Int), false) = (N, B) := by rw [← hN, numF_long (by rw [← Lib.size_eq]; omega)]
      obtain ⟨rfl, rfl⟩ := Prod.mk.inj this
      clear hN hr hE this
      go_enter Tryz.func121, Tryz.ntmps121
      go_wp2
      go_ret2
      exact ⟨rfl, Below.refl _ _⟩
  · obtain ⟨x1, x2, x3, x4⟩ := S3.str_yes h0
    have : ((0 : Int), false) = (N, B) := by rw [← hN, lst_nilF h0]; rfl
    obtain ⟨rfl, rfl⟩ := Prod.mk.inj this
    clear hN hE this
    go_enter Tryz.func121, Tryz.ntmps121
    go_wp2
    go_ret2
    exact ⟨rfl, Below.refl _ _⟩

set_option maxHeartbeats 2000000 in
theorem readSeats_any (s : ByteArray) (w : World) (hE : Env w) : Calls Tryz.prog 87 #[.string s] w fun e w' => e = .returned (.tuple #[.int .i64 (seatsF (lst s)).1, .int .i64 (seatsF (lst s)).2]) ∧ Below w.heap.size w w' := by
  have cR := padded4_any s w hE
  unfold seatsF
  obtain ⟨⟨N, B⟩, hN⟩ : ∃ N, numF (lst s) = N := ⟨_, rfl⟩
  rw [hN] at cR ⊢
  dsimp only at cR ⊢
  have CR := hid cR
  clear cR hE hN
  cases B with
  | false =>
    rw [if_pos rfl]
    go_enter Tryz.func87, Tryz.ntmps87
    go_wp2_with fail
    refine CR.out.mono ?_
    rintro e w' ⟨rfl, hb⟩
    have HB := hid hb
    clear hb
    go_wp2
    go_ret2
    exact ⟨rfl, HB.out⟩
  | true =>
    rw [if_neg (by simp)]
    go_enter Tryz.func87, Tryz.ntmps87
    go_wp2_with fail
    refine CR.out.mono ?_
    rintro e w' ⟨rfl, hb⟩
    have HB := hid hb
    clear hb
    go_wp2
    go_ret2
    exact ⟨rfl, HB.out⟩
end Go.Proofs.YtigdcgklpapfbaaGreatDoor.S10

set_option linter.unusedVariables false
namespace Go.Proofs.YtigdcgklpapfbaaGreatDoor.S10
open Go Go.Proofs Go.RowKit Go.Lib Go.Proofs.YtigdcgklpapfbaaGreatDoor

set_option maxHeartbeats 2000000 in
theorem isLength_any (n d s b m : Int) (w : World) : Calls Tryz.prog 41 #[.int .i64 n, .agg #[.int .i64 d, .int .i64 s, .int .i64 b, .int .i64 m]] w (Says (.bool (decide (1 ≤ n ∧ n ≤ s))) w) := by
  unfold Says
  obtain ⟨g0, g1, g2, g3, _⟩ := Box4.new w d s b m 24
  have HB := hid ((Below.refl w.heap.size w).alloc (Nat.le_refl _) (.cells #[.int .i64 d, .int .i64 s, .int .i64 b, .int .i64 m] 24))
  by_cases h1 : 1 ≤ n
  · by_cases h2 : n ≤ s
    · rw [show decide (1 ≤ n ∧ n ≤ s) = true from decide_eq_true ⟨h1, h2⟩]
      go_enter Tryz.func41, Tryz.ntmps41
      go_wp2
      go_ret
      exact ⟨rfl, HB.out⟩
    · rw [show decide (1 ≤ n ∧ n ≤ s) = false from decide_eq_false (fun h => h2 h.2)]
      go_enter Tryz.func41, Tryz.ntmps41
      go_wp2
      go_ret
      exact ⟨rfl, HB.out⟩
  · rw [show decide (1 ≤ n ∧ n ≤ s) = false from decide_eq_false (fun h => h1 h.1)]
    go_enter Tryz.func41, Tryz.ntmps41
    go_wp2
    go_ret
    exact ⟨rfl, HB.out⟩

theorem lenM_cases (s : Int) (x : Str) : (smallN x = 0 ∧ lenM s x = (0, 4)) ∨ (smallN x ≠ 0 ∧ ((decide (1 ≤ (smallN x : Int) ∧ (smallN x : Int) ≤ s) = false ∧ lenM s x = (0, 3)) ∨ (decide (1 ≤ (smallN x : Int) ∧ (smallN x : Int) ≤ s) = true ∧ lenM s x = ((smallN x : Int), 0)))) := by
  unfold lenM
  by_cases h : smallN x = 0
  · exact .inl ⟨h, if_pos h⟩
  · refine .inr ⟨h, ?_⟩
    rw [if_neg h]
    by_cases h2 : s < (smallN x : Int)
    · exact .inl ⟨decide_eq_false (by omega), if_pos h2⟩
    · exact .inr ⟨decide_eq_true (by omega), if_neg h2⟩
set_option maxHeartbeats 2000000 in
theorem readLength_any (x : ByteArray) (hz : x.size ≤ 4611686018427387904) (d s b m : Int) (w : World) (hE : Env w) : Calls Tryz.prog 85 #[.string x, .agg #[.int .i64 d, .int .i64 s, .int .i64 b, .int .i64 m]] w fun e w' => e = .returned (.tuple #[.int .i64 (lenM s (lst x)).1, .int .i64 (lenM s (lst x)).2]) ∧ Below w.heap.size w w' := by
  have hb0 := (Below.refl w.heap.size w).alloc (Nat.le_refl _) (.cells #[.int .i64 d, .int .i64 s, .int .i64 b, .int .i64 m] 24)
  have cR := hid (read_any x hz (w.alloc (.cells #[.int .i64 d, .int .i64 s, .int .i64 b, .int .i64 m] 24)) (hE.below hb0 hE.size))
  have hG := Box4.new w d s b m 24
  have hcs := lenM_cases s (lst x)
  have cR' := cR.out
  unfold NumOut at cR'
  obtain ⟨R, hR⟩ : ∃ R, lenM s (lst x) = R := ⟨_, rfl⟩
  obtain ⟨N, hN⟩ : ∃ N, smallN (lst x) = N := ⟨_, rfl⟩
  rw [hR, hN] at hcs
  rw [hN] at cR'
  rw [hR]
  have CL := hid (fun w => isLength_any (N : Int) d s b m w)
  have CR := hid cR'
  have HB0 := hid hb0
  have HG := hid hG
  clear cR cR' hR hN hb0 hG hE
  rcases hcs with ⟨h0, rfl⟩ | ⟨h0, hcs⟩
  · have CR' := CR.out
    rw [decide_eq_false (fun k => k h0)] at CR'
    have CR2 := hid CR'
    clear CR CR' h0 CL
    go_enter Tryz.func85, Tryz.ntmps85
    go_wp2_with fail
    generalize w.alloc (.cells #[.int .i64 d, .int .i64 s, .int .i64 b, .int .i64 m] 24) = w1 at HB0 HG CR2 ⊢
    refine CR2.out.mono ?_
    rintro e w2 ⟨rfl, hb⟩
    have HB := hid (HB0.out.trans (hb.mono HB0.out.size))
    clear hb
    go_wp2
    go_ret2
    exact ⟨rfl, HB.out⟩
  · have CR' := CR.out
    rw [decide_eq_true h0] at CR'
    have CR2 := hid CR'
    clear CR CR' h0
    rcases hcs with ⟨h1, rfl⟩ | ⟨h1, rfl⟩ <;>
    · have CL' := CL.out
      rw [h1] at CL'
      have CL2 := hid CL'
      clear CL CL' h1
      go_enter Tryz.func85, Tryz.ntmps85
      go_wp2_with fail
      generalize w.alloc (.cells #[.int .i64 d, .int .i64 s, .int .i64 b, .int .i64 m] 24) = w1 at HB0 HG CR2 ⊢
      have hgl := HG.out.lt
      refine CR2.out.mono ?_
      rintro e w2 ⟨rfl, hb⟩
      obtain ⟨g0, g1, g2, g3, _⟩ := HG.out.next hb hgl
      have HB := hid (HB0.out.trans (hb.mono HB0.out.size))
      clear hb
      go_wp2_with fail
      refine (CL2.out w2).mono ?_
      unfold Says
      rintro e w3 ⟨rfl, hb3⟩
      have HB3 := hid (HB.out.trans (hb3.mono HB.out.size))
      clear hb3
      go_wp2
      go_ret2
      exact ⟨rfl, HB3.out⟩

set_option maxHeartbeats 2000000 in
theorem timeAt_any (y t k l : Int) (w : World) : Calls Tryz.prog 43 #[.agg #[.int .i64 y, .int .i64 t], .int .i64 k, .int .i64 l] w (Says (.agg #[.int .i64 k, .int .i64 y, .int .i64 t, .int .i64 l]) w) := by
  unfold Says
  go_enter Tryz.func43, Tryz.ntmps43
  go_wp2
  go_returns
  exact ⟨rfl, by first | exact (((Below.refl w.heap.size w).alloc (Nat.le_refl _) _).alloc (by simp) _)⟩

/-- What lies while isStart runs: a start, a grid. -/
structure SG (w0 : World) (S G : Nat) (d s b m y t : Int) (W : World) : Prop where
  g : Box4 W G d s b m
  s0 : W.cell? ⟨S, 0, none⟩ = some (.int .i64 y)
  s1 : W.cell? ⟨S, 1, none⟩ = some (.int .i64 t)
  sl : S < W.heap.size
  b : Below w0.heap.size w0 W
theorem SG.next {w0 W W' : World} {S G : Nat} {d s b m y t : Int} (h : SG w0 S G d s b m y t W) (k : Below W.heap.size W W') : SG w0 S G d s b m y t W' :=
  ⟨h.g.next k h.g.lt, (k.cell (p := ⟨S, 0, none⟩) h.sl).trans h.s0, (k.cell (p := ⟨S, 1, none⟩) h.sl).trans h.s1, Nat.lt_of_lt_of_le h.sl k.size, h.b.trans (k.mono h.b.size)⟩
theorem SG.first (w : World) (d s b m y t : Int) (T T' : TypeId) : SG w w.heap.size (w.heap.size + 1) d s b m y t ((w.alloc (.cells #[.int .i64 y, .int .i64 t] T)).alloc (.cells #[.int .i64 d, .int .i64 s, .int .i64 b, .int .i64 m] T')) := by
  have e0 := heap_alloc_new w (.cells #[.int .i64 y, .int .i64 t] T)
  have hb1 := (Below.refl w.heap.size w).alloc (Nat.le_refl _) (.cells #[.int .i64 y, .int .i64 t] T)
  have hs : (w.alloc (.cells #[.int .i64 y, .int .i64 t] T)).heap.size = w.heap.size + 1 := by simp
  generalize w.alloc (.cells #[.int .i64 y, .int .i64 t] T) = w1 at e0 hb1 hs ⊢
  have hb2 := (Below.refl w1.heap.size w1).alloc (Nat.le_refl _) (.cells #[.int .i64 d, .int .i64 s, .int .i64 b, .int .i64 m] T')
  have hG := Box4.new w1 d s b m T'
  rw [hs] at hG
  have e1 := (hb2.block w.heap.size (by omega)).trans e0
  refine ⟨hG, by rw [Lib.cell_of_heap e1]; rfl, by rw [Lib.cell_of_heap e1]; rfl, by simp; omega, hb1.trans (hb2.mono (by omega))⟩
set_option maxHeartbeats 4000000 in
set_option maxRecDepth 100000 in
theorem isStart_any (y t l d s b m : Int) (ht : t ≤ 9223372036854775807) (w : World) : Calls Tryz.prog 114 #[.agg #[.int .i64 y, .int .i64 t], .int .i64 l, .agg #[.int .i64 d, .int .i64 s, .int .i64 b, .int .i64 m]] w (Says (.bool (decide (fitsM d s b m 1 1 y t l = 0))) w) := by
  have cT := fun w => timeAt_any y t 1 l w
  have cF := fun w => fits_any d s b m 1 1 y t l ht w
  unfold Says at cT cF ⊢
  have hk := SG.first w d s b m y t 74 24
  obtain ⟨R, hR⟩ : ∃ R, fitsM d s b m 1 1 y t l = R := ⟨_, rfl⟩
  rw [hR] at cF ⊢
  have hre : (R == 0) = decide (R = 0) := by rw [Bool.eq_iff_iff]; simp
  obtain ⟨D, hD⟩ : ∃ D, decide (R = 0) = D := ⟨_, rfl⟩
  rw [hD] at hre ⊢
  have HK := hid hk
  have CT := hid cT
  have CF := hid cF
  clear cT cF hk hR hD
  go_enter Tryz.func114, Tryz.ntmps114
  go_wp2
  generalize (w.alloc (.cells #[.int .i64 y, .int .i64 t] 74)).alloc (.cells #[.int .i64 d, .int .i64 s, .int .i64 b, .int .i64 m] 24) = wx at HK ⊢
  have hk' := HK.out
  obtain ⟨g0, g1, g2, g3, _⟩ := HK.out.g
  have s0 := HK.out.s0
  have s1 := HK.out.s1
  go_region_held3 (fun w' => w'.cell? ⟨w.heap.size + 1, 0, none⟩ = some (.int .i64 d) ∧ w'.cell? ⟨w.heap.size + 1, 1, none⟩ = some (.int .i64 s) ∧ w'.cell? ⟨w.heap.size + 1, 2, none⟩ = some (.int .i64 b) ∧ w'.cell? ⟨w.heap.size + 1, 3, none⟩ = some (.int .i64 m) ∧ w'.cell? ⟨w.heap.size, 0, none⟩ = some (.int .i64 y) ∧ w'.cell? ⟨w.heap.size, 1, none⟩ = some (.int .i64 t))
    (first | with_reducible exact ⟨hk'.g.c0, hk'.g.c1, hk'.g.c2, hk'.g.c3, hk'.s0, hk'.s1⟩ | with_reducible exact ⟨(hk'.next (Below.refl _ _).drew).g.c0, (hk'.next (Below.refl _ _).drew).g.c1, (hk'.next (Below.refl _ _).drew).g.c2, (hk'.next (Below.refl _ _).drew).g.c3, (hk'.next (Below.refl _ _).drew).s0, (hk'.next (Below.refl _ _).drew).s1⟩)
    (first
      | (go_at_call 43; (with_reducible refine (CT.out _).mono ?_); rintro e wq ⟨rfl, hbq⟩; have hk' := (hk'.next (Below.refl _ _).drew).next hbq)
      | (go_at_call 147; (with_reducible refine (CF.out _).mono ?_); rintro e wq ⟨rfl, hbq⟩; have hk' := hk'.next hbq))
  all_goals
    go_wp2
    go_ret
    exact ⟨rfl, hk'.b⟩
end Go.Proofs.YtigdcgklpapfbaaGreatDoor.S10

set_option linter.unusedVariables false
namespace Go.Proofs.YtigdcgklpapfbaaGreatDoor
open Go Go.Proofs Go.RowKit Go.Lib

theorem readT_start (d s : Int) (n : Nat) (x : Str) (k : Nat) : (readT d s n x k).1.2.2.1 ≤ 9223372036854775807 := by
  have h : fromN (wSlots x) < 100 := smallN_lt _
  unfold readT
  split
  · split
    · show (fromN (wSlots x) : Int) - 1 ≤ _
      omega
    · show (0 : Int) ≤ _
      omega
  · show (0 : Int) ≤ _
    omega
theorem timeM_start (d s b m n : Int) (x : Str) : (timeM d s b m n x).1.2.2.1 ≤ 9223372036854775807 := by
  have z : (0 : Int) ≤ 9223372036854775807 := by omega
  unfold timeM
  split
  · unfold bodyT
    split
    · split
      · exact readT_start _ _ _ _ _
      · exact z
    · exact z
  · exact z
section
variable {N : Nat} {w : World} {d s b m n : Int}
theorem row_kindT {w : World} {B e z k : Nat} {v : Value} {xs : List Value} (h : w.ownsRow B e z v k xs) (g : Nat) (hg : v.ownBlock = some g) : ∃ c, w.heap[g]? = some (.cells c e (0, 0)) := by
  rcases h.2 with ⟨rfl, _⟩ | ⟨g', cap, cur, rfl, _, hh, _⟩
  · simp [Value.ownBlock] at hg
  · simp only [Value.ownBlock, Option.some.injEq] at hg
    subst hg
    exact ⟨cur, hh⟩
end
end Go.Proofs.YtigdcgklpapfbaaGreatDoor

