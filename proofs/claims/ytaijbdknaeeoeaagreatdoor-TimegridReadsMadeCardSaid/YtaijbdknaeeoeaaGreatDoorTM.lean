/-
  Grids and times of the week: plain mathematics. No program, no conditions.
-/
import Derived.Test.YtaijbdknaeeoeaaGreatDoorRM
set_option linter.unusedVariables false
namespace Go.Proofs.YtaijbdknaeeoeaaGreatDoor
open Go Go.Lib

def GridP (d s b m : Int) : Prop := (1 ≤ d ∧ d ≤ 7) ∧ (1 ≤ s ∧ s ≤ 24) ∧ (0 ≤ b ∧ b ≤ 1439) ∧ (5 ≤ m ∧ m ≤ 120) ∧ b + s * m ≤ 1440
instance (d s b m : Int) : Decidable (GridP d s b m) := by unfold GridP; infer_instance
def gridB (d s b m : Int) : Bool := decide (GridP d s b m)
def frameB (d s b m n : Int) : Bool := decide (gridB d s b m = true ∧ 1 ≤ n ∧ n ≤ 20)
def SoundP (k y t l : Int) : Prop := validM k 20 = true ∧ (0 ≤ y ∧ y ≤ 6) ∧ 0 ≤ t ∧ 1 ≤ l ∧ t + l ≤ 24
instance (k y t l : Int) : Decidable (SoundP k y t l) := by unfold SoundP; infer_instance
def soundB (k y t l : Int) : Bool := decide (SoundP k y t l)
def fitsM (d s b m n k y t l : Int) : Int :=
  if frameB d s b m n = true then (if soundB k y t l = true ∧ validM k n = true ∧ y < d ∧ t + l ≤ s then 0 else 14) else 1
def meetB (k y t l k' y' t' l' : Int) : Bool := decide (soundB k y t l = true ∧ soundB k' y' t' l' = true ∧ bits .and .i64 k k' ≠ 0 ∧ y = y')
def gapI (t l t' l' : Int) : Int := max (max t t' - min (t + l) (t' + l')) (-1)
def betM (k y t l k' y' t' l' : Int) : Int × Bool := if meetB k y t l k' y' t' l' = true then (gapI t l t' l', true) else (0, false)
def overB (k y t l k' y' t' l' : Int) : Bool := (betM k y t l k' y' t' l').2 && decide ((betM k y t l k' y' t' l').1 < 0)
def befB (k y t l k' y' t' l' : Int) : Bool := decide (soundB k y t l = true ∧ soundB k' y' t' l' = true ∧ (y < y' ∨ y = y' ∧ t + l ≤ t'))
def clockM (d s b m q : Int) : Int × Int × Int := if gridB d s b m = true then (if 0 ≤ q ∧ q ≤ s then ((b + q * m).tdiv 60, (b + q * m).tmod 60, 0) else (0, 0, 3)) else (0, 0, 1)

/-! ### texts of times -/
def dayS : Nat → Str
  | 0 => [77, 111]
  | 1 => [84, 117]
  | 2 => [87, 101]
  | 3 => [84, 104]
  | 4 => [70, 114]
  | 5 => [83, 97]
  | _ => [83, 117]
def dayK (x : Str) : Option Nat := (List.range 7).find? fun k => decide (dayS k = x)
/-- The words of a time's text. -/
def wDay (x : Str) : Str := bef 32 x
def wSlots (x : Str) : Str := bef 32 (aft 32 x)
def wSet (x : Str) : Str := aft 32 (aft 32 x)
def wThree (x : Str) : Bool := has 32 (aft 32 x)
/-- The words are as they must be: two or three of them. -/
def wordsB (x : Str) : Bool := decide (wThree x = true → wSet x ≠ [] ∧ has 32 (wSet x) = false)
/-- The weeks that a text names. -/
def weeksT (x : Str) (n : Nat) : Nat × Int := if wThree x = true then parseN (wSet x) n else (2 ^ n - 1, 0)
def T4 := Int × Int × Int × Int
def readT (d s : Int) (n : Nat) (x : Str) (k : Nat) : (Int × Int × Int × Int) × Int :=
  if (k : Int) < d ∧ ¬ toN (wSlots x) < fromN (wSlots x) ∧ (toN (wSlots x) : Int) ≤ s then
    (if (weeksT x n).2 = 0 then ((((weeksT x n).1 : Nat), (k : Int), (fromN (wSlots x) : Int) - 1, (toN (wSlots x) : Int) - (fromN (wSlots x) : Int) + 1), 0) else ((0, 0, 0, 0), (weeksT x n).2))
  else ((0, 0, 0, 0), 14)
def bodyT (d s : Int) (n : Nat) (x : Str) : (Int × Int × Int × Int) × Int :=
  if wordsB x = true ∧ ¬ (fromN (wSlots x) = 0 ∨ toN (wSlots x) = 0) then (match dayK (wDay x) with | some k => readT d s n x k | none => ((0, 0, 0, 0), 4)) else ((0, 0, 0, 0), 4)
/-- What Parse hands back. -/
def timeM (d s b m n : Int) (x : Str) : (Int × Int × Int × Int) × Int := if frameB d s b m n = true then bodyT d s n.toNat x else ((0, 0, 0, 0), 1)
/-- The text of a time. -/
def timeT (n k y t l : Nat) : Str := dayS y ++ 32 :: itemT (t + 1) (t + l) ++ (if formN k n = [97, 108, 108] then [] else 32 :: formN k n)
/-- What Format hands back. -/
def textT (d s b m n k y t l : Int) : Str × Int := if fitsM d s b m n k y t l = 0 then (timeT n.toNat k.toNat y.toNat t.toNat l.toNat, 0) else ([], fitsM d s b m n k y t l)

/-! ### what is used of them -/
theorem grid_of {d s b m : Int} (h : gridB d s b m = true) : GridP d s b m := of_decide_eq_true h
theorem frame_of {d s b m n : Int} (h : frameB d s b m n = true) : GridP d s b m ∧ 1 ≤ n ∧ n ≤ 20 := by
  obtain ⟨h1, h2⟩ := of_decide_eq_true h
  exact ⟨grid_of h1, h2⟩
theorem sound_of {k y t l : Int} (h : soundB k y t l = true) : SoundP k y t l := of_decide_eq_true h
theorem dayK_some {x : Str} {k : Nat} (h : dayK x = some k) : k < 7 ∧ dayS k = x := by
  have h1 := List.find?_some h
  have h2 := List.mem_of_find?_eq_some h
  exact ⟨List.mem_range.1 h2, by simpa using h1⟩
theorem dayK_of {k : Nat} {x : Str} (hk : k < 7) (h : dayS k = x) : dayK x = some k := by
  subst h
  rcases (show k = 0 ∨ k = 1 ∨ k = 2 ∨ k = 3 ∨ k = 4 ∨ k = 5 ∨ k = 6 by omega) with rfl | rfl | rfl | rfl | rfl | rfl | rfl <;> decide
theorem dayK_none {x : Str} (h : ∀ i, i < 7 → dayS i ≠ x) : dayK x = none := by
  unfold dayK
  rw [List.find?_eq_none]
  intro k hk
  simp only [decide_eq_true_eq]
  exact h k (List.mem_range.1 hk)
theorem day_sign : ∀ k : Fin 7, has 32 (dayS k.val) = false := by decide
theorem nm_all : ∀ n : Fin 21, nmM 0 n.val = 2 ^ n.val - 1 := by decide +kernel
theorem parse_all {n : Nat} (h1 : 1 ≤ n) (h2 : n ≤ 20) : parseN [97, 108, 108] n = (2 ^ n - 1, 0) := by
  have hp : 2 ^ 1 ≤ 2 ^ n := pow_le h1
  have h0 := nm_all ⟨n, by omega⟩
  dsimp only at h0
  have h := parse_word (k := 0) (n := n) (by omega) h1 h2 (by rw [h0]; omega)
  rw [h0] at h
  unfold parseM at h
  rw [if_pos (by omega), Int.toNat_natCast] at h
  exact h
theorem slots_none {x : Str} (h : has 32 x = false) : fromN (wSlots x) = 0 := by
  unfold wSlots
  rw [(bef_miss 32 x h).2]
  rfl
end Go.Proofs.YtaijbdknaeeoeaaGreatDoor
