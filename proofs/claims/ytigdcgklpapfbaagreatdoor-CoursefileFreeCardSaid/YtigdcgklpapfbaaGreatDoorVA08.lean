/-
  Runs of weeks and their texts: the program's runAhead and writeItem, the specification's Decimal. Conditions: the weeks lie in memory as a slice of ints; the numbers are below 100.
  The program's Format. Conditions: the table of names holds what its text lays.
-/
import Derived.Test.YtigdcgklpapfbaaGreatDoorVA01
import Derived.Test.YtigdcgklpapfbaaGreatDoorVA02
import Derived.Test.YtigdcgklpapfbaaGreatDoorVA03
import Derived.Test.YtigdcgklpapfbaaGreatDoorVA04
import Derived.Test.YtigdcgklpapfbaaGreatDoorProg
import Derived.WalkKit
import Derived.WalkSpells
import Derived.WalkLawsBesides
import Derived.Lib.Hide
import Derived.Deep.QuietTactic
import Derived.BigQuiet
import Derived.Laws.Rows
import Derived.OwnWalk
import Derived.Lib.BufferWrite
import Derived.Lib.UnsafeStr
import Derived.Laws.IdiomStrings
import Derived.Laws.BytesArg
import Derived.Laws.BytesString
import Derived.Laws.OwnMore
import Derived.Lib.IndexLaws
import Derived.Lib.ItoaNum
import Derived.Lib.Atoi
import Derived.Laws.BitsAllLaws
import Derived.Laws.BitsLemmas
import Derived.Deep.MidRow
import Derived.Shelf.Strings.Builder1
import Derived.Shelf.Strings.Builder2
import Derived.Shelf.Strings.OnBuilder
import Derived.Shelf.Strings.Trim
import Derived.Shelf.Small.Bits
import Derived.Shelf.Small.Strs
import Derived.Shelf.Small.Wraps
import Derived.Shelf.Strings.BuilderF
import Derived.Shelf.Strings.BuilderK
import Derived.Shelf.Strings.Builder2Cap
import Derived.Shelf.Strconv.Atoi
import Derived.Shelf.Strconv.Itoa0
import Derived.Shelf.Strconv.Itoa1
import Derived.Shelf.LaysM
import Derived.Shelf.Strconv.Itoa2
import Derived.Shelf.Strconv.Itoa3
import Derived.Shelf.Strconv.AtoiErrFast
import Derived.Shelf.Strconv.ParseIntEmpty
import Derived.Shelf.Strconv.AtoiFail
import Derived.Shelf.Strconv.Clone
import Derived.Shelf.Strconv.SyntaxError
import Derived.Shelf.LaysC
import Derived.Shelf.Strconv.ToError
import Derived.Shelf.Strconv.AtoiErr
import Derived.Shelf.Strings.Search1
import Derived.Shelf.Strings.Search2
import Derived.Shelf.Strings.Search3
import Derived.Shelf.Strings.Cut
import Derived.Shelf.Strings.Shaped
import Derived.Shelf.Strings.Prefix
import Derived.Shelf.Strings.Runes
import Derived.Shelf.Strings.AsciiSet
import Derived.Shelf.Bits.Mul64
import Derived.Shelf.Strings.Repeat
import Derived.Shelf.Unicode.DecodeSlow
import Derived.Shelf.Strings.BuilderCap
import Derived.Shelf.Slices.Turned
import Derived.Ground.SlgfProg
import Derived.Shelf.SlicesE.IndexFunc
import Derived.Lib.AtoiErrMem
import Derived.Handy
import Derived.Deep.RegionLaw
set_option linter.unusedVariables false
namespace Go.Proofs.YtigdcgklpapfbaaGreatDoor
open Go Go.Proofs Go.RowKit Go.Lib

theorem castL_get (l : List Nat) (j : Nat) (v : Nat) (h : l[j]? = some v) : (castL l)[j]? = some (v : Int) := by
  unfold castL
  rw [List.getElem?_map, h]
  rfl
theorem IntsIn.cell {w : World} {B : Nat} {A : Option Addr} {l : List Nat} (h : IntsIn w B A (castL l)) (hne : l ≠ []) : ∃ b off, A = some ⟨b, off, none⟩ ∧ ∀ j v, l[j]? = some v → w.cell? ⟨b, off + j, none⟩ = some (.int .i64 ((v : Nat) : Int)) := by
  rcases h with h | ⟨b, off, hA, hB, hc⟩
  · exact absurd (by unfold castL at h; simpa using h) hne
  · exact ⟨b, off, hA, fun j v hv => hc j _ (castL_get l j v hv)⟩

end Go.Proofs.YtigdcgklpapfbaaGreatDoor

set_option linter.unusedVariables false
namespace Go.Proofs.YtigdcgklpapfbaaGreatDoor
open Go Go.Proofs Go.RowKit Go.Lib

theorem row_drawn {w : World} {B e z n : Nat} {v : Value} {xs : List Value} (h : w.ownsRow B e z v n xs) (q : Nat) : (w.drewN q).ownsRow B e z v n xs :=
  (Rolled.drawn w.heap.size w q).row h (fun e => by have := (h.lt _ e).2; omega)


/-- The list from a place on. -/
theorem IntsIn.from {w : World} {B b off : Nat} {l : List Nat} (h : IntsIn w B (some ⟨b, off, none⟩) (castL l)) (k : Nat) (A : Option Addr) (hA : k < l.length → A = some ⟨b, off + k, none⟩) : IntsIn w B A (castL (l.drop k)) := by
  rcases Nat.lt_or_ge k l.length with hk | hk
  · rcases h with h | ⟨b', off', he, hB, hc⟩
    · have : l = [] := by unfold castL at h; simpa using h
      rw [this] at hk
      simp at hk
    · injection he with he
      injection he with h1 h2
      subst h1 h2
      refine .inr ⟨b, off + k, hA hk, hB, fun j v hv => ?_⟩
      rw [Nat.add_assoc]
      refine hc (k + j) v ?_
      unfold castL at hv ⊢
      rw [List.getElem?_map, List.getElem?_drop] at hv
      rw [List.getElem?_map]
      exact hv
  · left
    rw [List.drop_eq_nil_of_le hk]
    rfl
theorem StrRow.snoc {w : World} {B : Nat} {v : Value} {l : List Str} {x : Str} (h : w.ownsRow B 9 1 v (l.length + 1) (strVals l ++ [.string (ba x)])) : StrRow w B v (l ++ [x]) := by
  unfold StrRow
  rw [List.length_append, strVals_app]
  exact h

end Go.Proofs.YtigdcgklpapfbaaGreatDoor

