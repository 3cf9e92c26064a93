/-
  Letters, digits, signs, and whether a string is a code: the program's functions and the reference's. Conditions: none.
-/
import Derived.Test.YtldnbneblpebiaaGreatDoorMath
import Derived.Test.YtldnbneblpebiaaGreatDoorText
set_option linter.unusedVariables false
namespace Go.Proofs.YtldnbneblpebiaaGreatDoor
open Go Go.Proofs Go.RowKit Go.Lib

def ltr (c : UInt8) : Bool := (decide (65 ≤ c.toNat) && decide (c.toNat ≤ 90)) || (decide (97 ≤ c.toNat) && decide (c.toNat ≤ 122))
def sgn (c : UInt8) : Bool := c.toNat == 95 || c.toNat == 45
def okC (c : UInt8) : Bool := ltr c || dg c || sgn c
/-- A code. -/
def validC (s : Str) : Bool := match s with | [] => false | c :: _ => decide (s.length ≤ 16) && !sgn c && s.all okC
theorem ret_bool {a b : Bool} (h : a = b) : Ending.returned (.bool a) = .returned (.bool b) := by rw [h]

set_option maxHeartbeats 1000000 in
theorem isDigit_any (c : UInt8) (w : World) : Calls Tryz.prog 28 #[.int .u8 (c.toNat : Int)] w fun e w' => e = .returned (.bool (dg c)) ∧ w = w' := by
  unfold dg
  rcases (show c.toNat < 48 ∨ (48 ≤ c.toNat ∧ c.toNat ≤ 57) ∨ 57 < c.toNat by omega) with h | h | h
  · have z1 : ¬ (48 : Int) ≤ (c.toNat : Int) := by omega
    rw [show (decide (48 ≤ c.toNat) && decide (c.toNat ≤ 57)) = false by simp; omega]
    go_enter Tryz.func28, Tryz.ntmps28
    go_wp2
    go_ret
    exact ⟨rfl, rfl⟩
  · have z1 : (48 : Int) ≤ (c.toNat : Int) := by omega
    have z2 : (c.toNat : Int) ≤ 57 := by omega
    rw [show (decide (48 ≤ c.toNat) && decide (c.toNat ≤ 57)) = true by simp; omega]
    go_enter Tryz.func28, Tryz.ntmps28
    go_wp2
    go_ret
    exact ⟨rfl, rfl⟩
  · have z1 : (48 : Int) ≤ (c.toNat : Int) := by omega
    have z2 : ¬ (c.toNat : Int) ≤ 57 := by omega
    rw [show (decide (48 ≤ c.toNat) && decide (c.toNat ≤ 57)) = false by simp; omega]
    go_enter Tryz.func28, Tryz.ntmps28
    go_wp2
    go_ret
    exact ⟨rfl, rfl⟩
set_option maxHeartbeats 1000000 in
theorem digit_any (c : UInt8) (w : World) : Calls Tryz.prog 29 #[.int .u8 (c.toNat : Int)] w fun e w' => e = .returned (.bool (dg c)) ∧ w = w' := by
  unfold dg
  rcases (show c.toNat < 48 ∨ (48 ≤ c.toNat ∧ c.toNat ≤ 57) ∨ 57 < c.toNat by omega) with h | h | h
  · have z1 : ¬ (48 : Int) ≤ (c.toNat : Int) := by omega
    rw [show (decide (48 ≤ c.toNat) && decide (c.toNat ≤ 57)) = false by simp; omega]
    go_enter Tryz.func29, Tryz.ntmps29
    go_wp2
    go_ret
    exact ⟨rfl, rfl⟩
  · have z1 : (48 : Int) ≤ (c.toNat : Int) := by omega
    have z2 : (c.toNat : Int) ≤ 57 := by omega
    rw [show (decide (48 ≤ c.toNat) && decide (c.toNat ≤ 57)) = true by simp; omega]
    go_enter Tryz.func29, Tryz.ntmps29
    go_wp2
    go_ret
    exact ⟨rfl, rfl⟩
  · have z1 : (48 : Int) ≤ (c.toNat : Int) := by omega
    have z2 : ¬ (c.toNat : Int) ≤ 57 := by omega
    rw [show (decide (48 ≤ c.toNat) && decide (c.toNat ≤ 57)) = false by simp; omega]
    go_enter Tryz.func29, Tryz.ntmps29
    go_wp2
    go_ret
    exact ⟨rfl, rfl⟩
theorem ltr_cases (c : UInt8) : (c.toNat < 65 ∧ ltr c = false) ∨ ((65 ≤ c.toNat ∧ c.toNat ≤ 90) ∧ ltr c = true) ∨ ((90 < c.toNat ∧ c.toNat < 97) ∧ ltr c = false) ∨ ((97 ≤ c.toNat ∧ c.toNat ≤ 122) ∧ ltr c = true) ∨ (122 < c.toNat ∧ ltr c = false) := by
  unfold ltr
  rcases (show c.toNat < 65 ∨ (65 ≤ c.toNat ∧ c.toNat ≤ 90) ∨ (90 < c.toNat ∧ c.toNat < 97) ∨ (97 ≤ c.toNat ∧ c.toNat ≤ 122) ∨ 122 < c.toNat by omega) with h | h | h | h | h
  · exact .inl ⟨h, by simp; omega⟩
  · exact .inr (.inl ⟨h, by simp; omega⟩)
  · exact .inr (.inr (.inl ⟨h, by simp; omega⟩))
  · exact .inr (.inr (.inr (.inl ⟨h, by simp; omega⟩)))
  · exact .inr (.inr (.inr (.inr ⟨h, by simp; omega⟩)))
set_option maxHeartbeats 1000000 in
theorem isLetter_any (c : UInt8) (w : World) : Calls Tryz.prog 27 #[.int .u8 (c.toNat : Int)] w fun e w' => e = .returned (.bool (ltr c)) ∧ w = w' := by
  rcases ltr_cases c with ⟨h, e⟩ | ⟨h, e⟩ | ⟨h, e⟩ | ⟨h, e⟩ | ⟨h, e⟩ <;> rw [e] <;> clear e
  · have z1 : ¬ (65 : Int) ≤ (c.toNat : Int) := by omega
    have z3 : ¬ (97 : Int) ≤ (c.toNat : Int) := by omega
    go_enter Tryz.func27, Tryz.ntmps27
    go_wp2
    go_ret
    exact ⟨rfl, rfl⟩
  · have z1 : (65 : Int) ≤ (c.toNat : Int) := by omega
    have z2 : (c.toNat : Int) ≤ 90 := by omega
    go_enter Tryz.func27, Tryz.ntmps27
    go_wp2
    go_ret
    exact ⟨rfl, rfl⟩
  · have z1 : (65 : Int) ≤ (c.toNat : Int) := by omega
    have z2 : ¬ (c.toNat : Int) ≤ 90 := by omega
    have z3 : ¬ (97 : Int) ≤ (c.toNat : Int) := by omega
    go_enter Tryz.func27, Tryz.ntmps27
    go_wp2
    go_ret
    exact ⟨rfl, rfl⟩
  · have z1 : (65 : Int) ≤ (c.toNat : Int) := by omega
    have z2 : ¬ (c.toNat : Int) ≤ 90 := by omega
    have z3 : (97 : Int) ≤ (c.toNat : Int) := by omega
    have z4 : (c.toNat : Int) ≤ 122 := by omega
    go_enter Tryz.func27, Tryz.ntmps27
    go_wp2
    go_ret
    exact ⟨rfl, rfl⟩
  · have z1 : (65 : Int) ≤ (c.toNat : Int) := by omega
    have z2 : ¬ (c.toNat : Int) ≤ 90 := by omega
    have z3 : (97 : Int) ≤ (c.toNat : Int) := by omega
    have z4 : ¬ (c.toNat : Int) ≤ 122 := by omega
    go_enter Tryz.func27, Tryz.ntmps27
    go_wp2
    go_ret
    exact ⟨rfl, rfl⟩
set_option maxHeartbeats 1000000 in
theorem letter_any (c : UInt8) (w : World) : Calls Tryz.prog 30 #[.int .u8 (c.toNat : Int)] w fun e w' => e = .returned (.bool (ltr c)) ∧ w = w' := by
  rcases ltr_cases c with ⟨h, e⟩ | ⟨h, e⟩ | ⟨h, e⟩ | ⟨h, e⟩ | ⟨h, e⟩ <;> rw [e] <;> clear e
  · have z1 : ¬ (65 : Int) ≤ (c.toNat : Int) := by omega
    have z3 : ¬ (97 : Int) ≤ (c.toNat : Int) := by omega
    go_enter Tryz.func30, Tryz.ntmps30
    go_wp2
    go_ret
    exact ⟨rfl, rfl⟩
  · have z1 : (65 : Int) ≤ (c.toNat : Int) := by omega
    have z2 : (c.toNat : Int) ≤ 90 := by omega
    go_enter Tryz.func30, Tryz.ntmps30
    go_wp2
    go_ret
    exact ⟨rfl, rfl⟩
  · have z1 : (65 : Int) ≤ (c.toNat : Int) := by omega
    have z2 : ¬ (c.toNat : Int) ≤ 90 := by omega
    have z3 : ¬ (97 : Int) ≤ (c.toNat : Int) := by omega
    go_enter Tryz.func30, Tryz.ntmps30
    go_wp2
    go_ret
    exact ⟨rfl, rfl⟩
  · have z1 : (65 : Int) ≤ (c.toNat : Int) := by omega
    have z2 : ¬ (c.toNat : Int) ≤ 90 := by omega
    have z3 : (97 : Int) ≤ (c.toNat : Int) := by omega
    have z4 : (c.toNat : Int) ≤ 122 := by omega
    go_enter Tryz.func30, Tryz.ntmps30
    go_wp2
    go_ret
    exact ⟨rfl, rfl⟩
  · have z1 : (65 : Int) ≤ (c.toNat : Int) := by omega
    have z2 : ¬ (c.toNat : Int) ≤ 90 := by omega
    have z3 : (97 : Int) ≤ (c.toNat : Int) := by omega
    have z4 : ¬ (c.toNat : Int) ≤ 122 := by omega
    go_enter Tryz.func30, Tryz.ntmps30
    go_wp2
    go_ret
    exact ⟨rfl, rfl⟩
theorem sgn_cases (c : UInt8) : (((c.toNat : Int) == 95) = true ∧ ((c.toNat : Int) != 95) = false ∧ sgn c = true) ∨ (((c.toNat : Int) == 95) = false ∧ ((c.toNat : Int) != 95) = true ∧ ((c.toNat : Int) == 45) = true ∧ ((c.toNat : Int) != 45) = false ∧ sgn c = true) ∨ (((c.toNat : Int) == 95) = false ∧ ((c.toNat : Int) != 95) = true ∧ ((c.toNat : Int) == 45) = false ∧ ((c.toNat : Int) != 45) = true ∧ sgn c = false) := by
  unfold sgn
  rcases (show c.toNat = 95 ∨ c.toNat = 45 ∨ (c.toNat ≠ 95 ∧ c.toNat ≠ 45) by omega) with h | h | h
  · exact .inl (by rw [h]; decide)
  · exact .inr (.inl (by rw [h]; decide))
  · refine .inr (.inr ⟨?_, ?_, ?_, ?_, ?_⟩) <;> simp <;> omega
set_option maxHeartbeats 1000000 in
theorem isSign_any (c : UInt8) (w : World) : Calls Tryz.prog 26 #[.int .u8 (c.toNat : Int)] w fun e w' => e = .returned (.bool (sgn c)) ∧ w = w' := by
  rcases sgn_cases c with ⟨h, _, e⟩ | ⟨h1, _, h2, _, e⟩ | ⟨h1, _, h2, _, e⟩ <;> rw [e] <;> clear e
  all_goals
    go_enter Tryz.func26, Tryz.ntmps26
    go_wp2
    go_ret
    exact ⟨rfl, rfl⟩

theorem all_snoc (s : ByteArray) (k : Nat) (h : k < s.size) : (s.data.toList.take (k + 1)).all okC = ((s.data.toList.take k).all okC && okC s[k]) := by
  rw [List.take_succ_eq_append_getElem (by simpa using h), List.all_append]
  simp
  rfl
theorem all_bad (s : ByteArray) (k : Nat) (h : k < s.size) (hb : okC s[k] = false) : s.data.toList.all okC = false := by
  rw [List.all_eq_false]
  refine ⟨s[k], ?_, by simp [hb]⟩
  exact Array.mem_toList_iff.2 (Array.getElem_mem _)
theorem validC_no {s : ByteArray} (h : s.data.toList.all okC = false) : validC s.data.toList = false := by
  unfold validC
  split
  · rfl
  · rw [h, Bool.and_false]
theorem valid_big {s : ByteArray} (h : 16 < s.size) : validC s.data.toList = false := by
  rw [Lib.size_eq] at h
  unfold validC
  split
  · rfl
  · rw [decide_eq_false (by omega)]; rfl
theorem valid_sign {s : ByteArray} (h0 : 0 < s.size) (h : sgn s[0] = true) : validC s.data.toList = false := by
  unfold validC
  split
  · rfl
  · rename_i c r hs
    have : s[0] = c := by
      have : s.data.toList[0]? = some c := by rw [hs]; rfl
      rw [Lib.size_eq] at h0
      rw [List.getElem?_eq_getElem h0] at this
      exact Option.some.inj this
    rw [this] at h
    rw [h]
    simp
theorem valid_yes {s : ByteArray} (h0 : 0 < s.size) (h16 : s.size ≤ 16) (h : sgn s[0] = false) (ha : s.data.toList.all okC = true) : validC s.data.toList = true := by
  rw [Lib.size_eq] at h16
  unfold validC
  split
  · rename_i hs; rw [Lib.size_eq, hs] at h0; simp at h0
  · rename_i c r hs
    have : s[0] = c := by
      have : s.data.toList[0]? = some c := by rw [hs]; rfl
      rw [Lib.size_eq] at h0
      rw [List.getElem?_eq_getElem h0] at this
      exact Option.some.inj this
    rw [this] at h
    rw [h, ha, decide_eq_true h16]
    rfl
end Go.Proofs.YtldnbneblpebiaaGreatDoor
