/-
  Parse of times by the specification. Conditions: the variables hold what their text lays; the string fits into memory.
-/
import Derived.Test.YtnpfmoalgphkcaaGreatDoorMM01
import Derived.Test.YtnpfmoalgphkcaaGreatDoorMM02
import Derived.Test.YtnpfmoalgphkcaaGreatDoorMM03
import Derived.Test.YtnpfmoalgphkcaaGreatDoorMM04
import Derived.Test.YtnpfmoalgphkcaaGreatDoorMM05
import Derived.Test.YtnpfmoalgphkcaaGreatDoorMM06
import Derived.Test.YtnpfmoalgphkcaaGreatDoorMM07
import Derived.Test.YtnpfmoalgphkcaaGreatDoorMM08
import Derived.Test.YtnpfmoalgphkcaaGreatDoorMM09
import Derived.Test.YtnpfmoalgphkcaaGreatDoorMM16
import Derived.Test.YtnpfmoalgphkcaaGreatDoorMM17
import Derived.Test.YtnpfmoalgphkcaaGreatDoorProg
import Derived.WalkKit
import Derived.WalkSpells
import Derived.WalkLawsBesides
import Derived.Lib.Hide
import Derived.Deep.QuietTactic
import Derived.BigQuiet
import Derived.Laws.Rows
import Derived.OwnWalk
import Derived.Lib.BufferWrite
import Derived.Lib.UnsafeStr
import Derived.Laws.IdiomStrings
import Derived.Laws.BytesArg
import Derived.Laws.BytesString
import Derived.Laws.OwnMore
import Derived.Lib.IndexLaws
import Derived.Lib.ItoaNum
import Derived.Lib.Atoi
import Derived.Laws.BitsAllLaws
import Derived.Laws.BitsLemmas
import Derived.Deep.MidRow
import Derived.Shelf.Strings.Builder1
import Derived.Shelf.Strings.Builder2
import Derived.Shelf.Strings.OnBuilder
import Derived.Shelf.Strings.BuilderF
import Derived.Shelf.Strings.BuilderK
import Derived.Shelf.Strings.Builder2Cap
import Derived.Shelf.Strconv.Atoi
import Derived.Shelf.Strconv.Itoa0
import Derived.Shelf.Strconv.Itoa1
import Derived.Shelf.LaysM
import Derived.Shelf.Strconv.Itoa2
import Derived.Shelf.Strconv.Itoa3
import Derived.Shelf.Strconv.AtoiErrFast
import Derived.Shelf.Strconv.ParseIntEmpty
import Derived.Shelf.Strconv.AtoiFail
import Derived.Shelf.Strconv.Clone
import Derived.Shelf.Strconv.SyntaxError
import Derived.Shelf.LaysC
import Derived.Shelf.Strconv.ToError
import Derived.Shelf.Strconv.AtoiErr
import Derived.Shelf.Strings.Search1
import Derived.Shelf.Strings.Search2
import Derived.Shelf.Strings.Search3
import Derived.Shelf.Strings.Cut
import Derived.Shelf.Strings.Shaped
import Derived.Shelf.Strings.Prefix
import Derived.Shelf.Unicode.DecodeSlow
import Derived.Shelf.Strings.BuilderCap
import Derived.Lib.AtoiErrMem
import Derived.Handy
import Derived.RangeFuncNested
import Derived.RangeFuncBound
import Derived.RangeFuncCalls
import Derived.RangeFuncLeaves
import Derived.Shelf.Abstract
import Derived.Shelf.RegionOpen
import Derived.OwnWalkIn
import Derived.TacticsInMore
import Derived.LoopNIn
import Derived.LoopIn
import Derived.Laws.ResultCell
import Derived.Deep.RegionLaw
import Derived.Deep.RegionHeld3
set_option linter.unusedVariables false
set_option linter.unusedSimpArgs false
namespace Go.Proofs.YtnpfmoalgphkcaaGreatDoor
open Go Go.Proofs Go.RowKit Go.Lib
theorem wdayI_some {x : Str} {k : Nat} (h : dayK x = some k) : wdayI x = (k : Int) := by unfold wdayI; rw [h]
theorem wdayI_none {x : Str} (h : dayK x = none) : wdayI x = -1 := by unfold wdayI; rw [h]
theorem body_bad {d s : Int} {n : Nat} {x : Str} (h : ¬ (wordsB x = true ∧ ¬ (fromN (wSlots x) = 0 ∨ toN (wSlots x) = 0))) : bodyT d s n x = ((0, 0, 0, 0), 4) := by
  unfold bodyT
  rw [if_neg h]
theorem body_day {d s : Int} {n : Nat} {x : Str} (h : dayK (wDay x) = none) : bodyT d s n x = ((0, 0, 0, 0), 4) := by
  unfold bodyT
  split
  · rw [h]
  · rfl
theorem body_good {d s : Int} {n : Nat} {x : Str} {k : Nat} (h : wordsB x = true) (h1 : fromN (wSlots x) ≠ 0) (h2 : toN (wSlots x) ≠ 0) (hd : dayK (wDay x) = some k) : bodyT d s n x = readT d s n x k := by
  unfold bodyT
  rw [if_pos ⟨h, by omega⟩, hd]
theorem words_two {x : Str} (h3 : wThree x = false) : wordsB x = true := decide_eq_true (fun h => by rw [h3] at h; simp at h)
theorem words_three {x : Str} (h4 : has 32 (wSet x) = false) (hc : wSet x ≠ []) : wordsB x = true := decide_eq_true (fun _ => ⟨hc, h4⟩)
theorem words_four {x : Str} (h4 : has 32 (wSet x) = true) : wordsB x = false := decide_eq_false (fun h => by
  cases h3 : wThree x with
  | false =>
    unfold wSet at h4
    unfold wThree at h3
    rw [(bef_miss 32 _ h3).2] at h4
    simp [has] at h4
  | true =>
    have := (h h3).2
    rw [h4] at this
    simp at this)
theorem words_nil {x : Str} (h3 : wThree x = true) (hc : wSet x = []) : wordsB x = false := decide_eq_false (fun h => (h h3).1 hc)
theorem PK.setT {w0 w : World} {d s b m : Int} {R : Nat} (h : PK w0 d s b m w) (hR : w0.heap.size + 2 ≤ R) (j : Nat) (v : Value) : PK w0 d s b m (w.setCell ⟨R, j, none⟩ v) := by
  have hx : ∀ o : Nat, (w.setCell ⟨R, j, none⟩ v).cell? ⟨w0.heap.size, o, none⟩ = w.cell? ⟨w0.heap.size, o, none⟩ := fun o => World.cell?_of_block (w := w) (Below.heap_setCell w ⟨R, j, none⟩ v _ (by show w0.heap.size ≠ R; omega))
  refine ⟨⟨(hx 0).trans h.x.c0, (hx 1).trans h.x.c1, (hx 2).trans h.x.c2, (hx 3).trans h.x.c3, ?_⟩, ?_, h.b.setCell (p := ⟨R, j, none⟩) (by show w0.heap.size ≤ R; omega) v⟩
  · have := h.x.lt
    simpa using this
  · exact (Below.heap_setCell w ⟨R, j, none⟩ v _ (by show w0.heap.size + 1 ≠ R; omega)).trans h.r
def goodT (x : Str) : Prop := has 32 x = true ∧ has 32 (wSet x) = false ∧ (wThree x = false ∨ wThree x = true ∧ (wSet x == []) = false) ∧ ¬ wdayI (wDay x) < 0 ∧ fromN (wSlots x) ≠ 0 ∧ toN (wSlots x) ≠ 0
inductive Way (d s : Int) (n : Nat) (x : Str) (two three four ce : Bool) (f g : Nat) (w : Int) (v : Nat) (e : Int) : (Int × Int × Int × Int) × Int → Prop
  | w1 : two = false → Way d s n x two three four ce f g w v e ((0, 0, 0, 0), 4)
  | w2 : two = true → four = true → Way d s n x two three four ce f g w v e ((0, 0, 0, 0), 4)
  | w3 : two = true → four = false → three = true → ce = true → Way d s n x two three four ce f g w v e ((0, 0, 0, 0), 4)
  | w4 : two = true → four = false → (three = false ∨ three = true ∧ ce = false) → w < 0 → Way d s n x two three four ce f g w v e ((0, 0, 0, 0), 4)
  | w5 : two = true → four = false → (three = false ∨ three = true ∧ ce = false) → ¬ w < 0 → f = 0 → Way d s n x two three four ce f g w v e ((0, 0, 0, 0), 4)
  | w6 : two = true → four = false → (three = false ∨ three = true ∧ ce = false) → ¬ w < 0 → f ≠ 0 → g = 0 → Way d s n x two three four ce f g w v e ((0, 0, 0, 0), 4)
  | g1 : two = true → four = false → (three = false ∨ three = true ∧ ce = false) → ¬ w < 0 → f ≠ 0 → g ≠ 0 → d ≤ w → Way d s n x two three four ce f g w v e ((0, 0, 0, 0), 14)
  | g2 : two = true → four = false → (three = false ∨ three = true ∧ ce = false) → ¬ w < 0 → f ≠ 0 → g ≠ 0 → ¬ d ≤ w → s < (g : Int) → Way d s n x two three four ce f g w v e ((0, 0, 0, 0), 14)
  | g3 : two = true → four = false → (three = false ∨ three = true ∧ ce = false) → ¬ w < 0 → f ≠ 0 → g ≠ 0 → ¬ d ≤ w → ¬ s < (g : Int) → g < f → Way d s n x two three four ce f g w v e ((0, 0, 0, 0), 14)
  | g4 : two = true → four = false → three = true → ce = false → ¬ w < 0 → f ≠ 0 → g ≠ 0 → ¬ d ≤ w → ¬ s < (g : Int) → ¬ g < f → e ≠ 0 → Way d s n x two three four ce f g w v e ((0, 0, 0, 0), e)
  | g5 : two = true → four = false → three = true → ce = false → ¬ w < 0 → f ≠ 0 → g ≠ 0 → ¬ d ≤ w → ¬ s < (g : Int) → ¬ g < f → e = 0 → Way d s n x two three four ce f g w v e (((v : Int), w, (f : Int) - 1, (g : Int) - (f : Int) + 1), 0)
  | g6 : two = true → four = false → three = false → ¬ w < 0 → f ≠ 0 → g ≠ 0 → ¬ d ≤ w → ¬ s < (g : Int) → ¬ g < f → Way d s n x two three four ce f g w v e (((2 : Int) ^ n - 1, w, (f : Int) - 1, (g : Int) - (f : Int) + 1), 0)
theorem ref_body {d s : Int} {n : Nat} {x : Str} {two three four ce : Bool} {f g : Nat} {w : Int} {v : Nat} {e : Int}
    (h2 : has 32 x = two) (h3 : wThree x = three) (h4 : has 32 (wSet x) = four) (hc : (wSet x == []) = ce) (hf : fromN (wSlots x) = f) (hg : toN (wSlots x) = g) (hw : wdayI (wDay x) = w) (hv : parseN (wSet x) n = (v, e)) :
    Way d s n x two three four ce f g w v e (bodyT d s n x) := by
  cases two with
  | false =>
    rw [body_bad (fun h => h.2 (.inl (slots_none h2)))]
    exact .w1 rfl
  | true =>
    cases four with
    | true =>
      rw [body_bad (fun h => by rw [words_four h4] at h; simp at h)]
      exact .w2 rfl rfl
    | false =>
      by_cases hbad : three = true ∧ ce = true
      · obtain ⟨rfl, rfl⟩ := hbad
        rw [body_bad (fun h => by rw [words_nil h3 (by simpa using hc)] at h; simp at h)]
        exact .w3 rfl rfl rfl rfl
      · have hok : three = false ∨ three = true ∧ ce = false := by cases three <;> cases ce <;> simp_all
        have hwb : wordsB x = true := by
          rcases hok with rfl | ⟨rfl, rfl⟩
          · exact words_two h3
          · exact words_three h4 (by simpa using hc)
        cases hd : dayK (wDay x) with
        | none =>
          rw [body_day hd]
          rw [wdayI_none hd] at hw
          exact .w4 rfl rfl hok (by omega)
        | some k =>
          rw [wdayI_some hd] at hw
          have hk7 := (dayK_some hd).1
          subst hw
          by_cases f0 : f = 0
          · rw [body_bad (fun h => h.2 (.inl (hf.trans f0)))]
            exact .w5 rfl rfl hok (by omega) f0
          · by_cases g0 : g = 0
            · rw [body_bad (fun h => h.2 (.inr (hg.trans g0)))]
              exact .w6 rfl rfl hok (by omega) f0 g0
            · rw [body_good hwb (by rw [hf]; exact f0) (by rw [hg]; exact g0) hd]
              unfold readT weeksT
              rw [hf, hg, h3, hv]
              by_cases a1 : d ≤ (k : Int)
              · rw [if_neg (by omega)]
                exact .g1 rfl rfl hok (by omega) f0 g0 a1
              · by_cases a2 : s < (g : Int)
                · rw [if_neg (by omega)]
                  exact .g2 rfl rfl hok (by omega) f0 g0 a1 a2
                · by_cases a3 : g < f
                  · rw [if_neg (fun h => h.2.1 a3)]
                    exact .g3 rfl rfl hok (by omega) f0 g0 a1 a2 a3
                  · rw [if_pos ⟨by omega, a3, by omega⟩]
                    rcases hok with rfl | ⟨rfl, rfl⟩
                    · rw [if_neg (show ¬ (false = true) by simp)]
                      rw [if_pos rfl]
                      have he : (((2 ^ n - 1 : Nat) : Nat) : Int) = (2 : Int) ^ n - 1 := by
                        have e : (2 : Int) ^ n = ((2 ^ n : Nat) : Int) := by rw [Int.natCast_pow]; rfl
                        have := Nat.two_pow_pos n
                        omega
                      dsimp only
                      rw [he]
                      exact .g6 rfl rfl rfl (by omega) f0 g0 a1 a2 a3
                    · rw [if_pos (show true = true from rfl)]
                      dsimp only
                      by_cases e0 : e = 0
                      · rw [if_pos e0]
                        exact .g5 rfl rfl rfl rfl (by omega) f0 g0 a1 a2 a3 e0
                      · rw [if_neg e0]
                        exact .g4 rfl rfl rfl rfl (by omega) f0 g0 a1 a2 a3 e0
end Go.Proofs.YtnpfmoalgphkcaaGreatDoor
