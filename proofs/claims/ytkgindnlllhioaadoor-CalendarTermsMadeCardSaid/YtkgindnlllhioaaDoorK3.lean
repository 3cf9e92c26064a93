/-
  The program's terms: lastOf, belongs, Index, Contains, checkHolidays, Valid. Conditions: the holidays lie in memory as a slice of ints; numbers are small where a sum is made of them.
-/
import Derived.Test.YtkgindnlllhioaaDoorK2
import Derived.Test.YtkgindnlllhioaaDoorTermM
import Derived.Test.YtkgindnlllhioaaDoorInts
set_option linter.unusedVariables false
namespace Go.Proofs.YtkgindnlllhioaaDoor
open Go Go.Proofs Go.RowKit Go.Lib

theorem wd_eq (d : Int) : wdM d = Cal.wdM d := rfl
theorem day_eq (d : Int) : dayB d = Cal.dayB d := rfl
/-- A term as a value. -/
abbrev termV (F W : Int) (A : Option Addr) (n c : Nat) : Value := .agg #[.int .i64 F, .int .i64 W, .slice A n c]
theorem lastOf_any (F W : Int) (A : Option Addr) (n c : Nat) (hF : 0 ≤ F ∧ F ≤ 100000) (hW : 0 ≤ W ∧ W ≤ 1000) (w : World) :
    Calls Tryd.prog 45 #[termV F W A n c] w fun e w' => e = .returned (.int .i64 (F + 7 * W - 1)) ∧ Below w.heap.size w w' := by
  go_enter Tryd.func45, Tryd.ntmps45
  go_wp2
  go_ret
  exact ⟨rfl, (Below.refl _ _).alloc (Nat.le_refl _) _⟩
theorem belongs_any (F W : Int) (A : Option Addr) (n c : Nat) (d : Int) (hF : 0 ≤ F ∧ F ≤ 100000) (hW : 0 ≤ W ∧ W ≤ 1000) (w : World) :
    Calls Tryd.prog 44 #[termV F W A n c, .int .i64 d] w fun e w' => e = .returned (.bool (decide (F ≤ d ∧ d ≤ F + 7 * W - 1))) ∧ Below w.heap.size w w' := by
  have c1 := hid (fun w => lastOf_any F W A n c hF hW w)
  by_cases h : F ≤ d
  · have e : decide (F ≤ d ∧ d ≤ F + 7 * W - 1) = decide (d ≤ F + 7 * W - 1) := by simp [h]
    rw [e]
    clear e
    go_enter Tryd.func44, Tryd.ntmps44
    go_wp2_with fail
    refine (c1.out _).mono ?_
    rintro e w' ⟨rfl, hb⟩
    have HB := hid (((Below.refl _ w).alloc (Nat.le_refl _) _).trans (hb.mono (by simp)))
    clear hb
    go_wp2
    go_ret
    exact ⟨by simp, HB.out⟩
  · have e : decide (F ≤ d ∧ d ≤ F + 7 * W - 1) = false := by simp [h]
    rw [e]
    have h' : decide (F ≤ d) = false := by simpa using h
    clear e h
    go_enter Tryd.func44, Tryd.ntmps44
    go_wp2
    go_ret
    exact ⟨by simp, (Below.refl _ _).alloc (Nat.le_refl _) _⟩
/-- An index that tells whether a number is there. -/
def Idx (L : List Int) (d : Int) (w : World) (e : Ending) (w' : World) : Prop := (∃ r : Int, e = .returned (.int .i64 r) ∧ decide (0 ≤ r) = decide (d ∈ L)) ∧ w = w'
theorem index_any (A : Option Addr) (L : List Int) (c : Nat) (d : Int) (hl : L.length ≤ 9223372036854775807) (w : World) (h : IntsIn w w.heap.size A L) :
    Calls Tryd.prog 47 #[.slice A L.length c, .int .i64 d] w (Idx L d w) := by
  have H := hid h
  clear h
  go_enter Tryd.func47, Tryd.ntmps47
  go_wp2
  go_loop [5, 8] (fun _ i => ∃ k : Nat, k ≤ L.length ∧ i = .int .i64 k ∧ Hid (∀ j, j < k → L.getD j 0 ≠ d)) (fun _ i => L.length - (intOf i).toNat)
  case atStart => exact ⟨0, Nat.zero_le _, rfl, hid (fun j hj => by omega)⟩
  case round =>
    obtain ⟨k, hk, rfl, hN⟩ := hrel
    by_cases hlt : k < L.length
    · obtain ⟨b, off, rfl, hb, hc⟩ := H.out.at_ hlt
      have hltz : (k : Int) < (L.length : Int) := by omega
      by_cases he : d = L.getD k 0
      · obtain ⟨u, hu⟩ : ∃ u, L.getD k 0 = u := ⟨_, rfl⟩
        rw [hu] at hc he
        subst he
        have HU := hid hu
        clear hu
        go_wp2
        go_ret
        refine ⟨⟨_, rfl, ?_⟩, rfl⟩
        have : d ∈ L := by rw [← HU.out, getD_elem hlt]; exact List.getElem_mem hlt
        simp [this]
      · obtain ⟨u, hu⟩ : ∃ u, L.getD k 0 = u := ⟨_, rfl⟩
        rw [hu] at hc he
        have hne : (d == u) = false := by simpa using he
        have HU := hid hu
        clear hu
        go_wp2
        go_round
        case rel => exact ⟨k + 1, by omega, by go_num, hid (fun j hj => by
          by_cases e : j = k
          · subst e; rw [HU.out]; exact fun e => he e.symm
          · exact hN.out j (by omega))⟩
        case measure => simp [intOf]; omega
    · obtain rfl : k = L.length := by omega
      go_wp2
      go_ret
      refine ⟨⟨_, rfl, ?_⟩, rfl⟩
      have : d ∉ L := fun hm => by
        obtain ⟨j, hj, e⟩ := List.getElem_of_mem hm
        exact hN.out j hj (by rw [getD_elem hj]; exact e)
      simp [this]
theorem contains_any (A : Option Addr) (L : List Int) (c : Nat) (d : Int) (hl : L.length ≤ 9223372036854775807) (w : World) (h : IntsIn w w.heap.size A L) :
    Calls Tryd.prog 42 #[.slice A L.length c, .int .i64 d] w fun e w' => e = .returned (.bool (decide (d ∈ L))) ∧ w = w' := by
  have c1 := hid (index_any A L c d hl w h)
  clear h
  go_enter Tryd.func42, Tryd.ntmps42
  go_wp2_with fail
  refine c1.out.mono ?_
  rintro e w' ⟨⟨r, rfl, hr⟩, rfl⟩
  have HR := hid hr
  clear hr
  go_wp2
  go_ret
  exact ⟨by rw [← HR.out]; rfl, rfl⟩
end Go.Proofs.YtkgindnlllhioaaDoor
