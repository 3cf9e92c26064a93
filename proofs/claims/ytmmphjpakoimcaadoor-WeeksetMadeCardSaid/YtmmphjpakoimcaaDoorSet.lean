/-
  A made set of weeks: Set of timetablemade.Dice gives back a number from 1 to 2^n - 1. Conditions: the dice lie in memory; n is from 1 to 20.
-/
import Derived.Test.YtmmphjpakoimcaaDoorDE
import Derived.Laws.BitsAllLaws
import Derived.Laws.BitsLemmas
set_option linter.unusedVariables false
namespace Go.Proofs.YtmmphjpakoimcaaDoor
open Go Go.Proofs Go.RowKit Go.Lib

/-- What Set hands back. -/
def SetP (n : Nat) (g c : Nat) (A : Option Addr) (L : List Int) (w0 : World) (e : Ending) (w' : World) : Prop :=
  (∃ S : Int, e = .returned (.int .i64 S) ∧ 1 ≤ S ∧ S < 2 ^ n) ∧ (∃ k', DiceAt w' g A L c k') ∧ Rolled g w0 w'
theorem set_ofInt (a : Nat) (ha : a < 9223372036854775808) : (BitVec.ofInt 64 (a : Int)).toNat = a := by
  rw [BitVec.ofInt_natCast, BitVec.toNat_ofNat]; exact Nat.mod_eq_of_lt (by omega)
theorem set_and (a b : Nat) (ha : a < 9223372036854775808) (hb : b < 9223372036854775808) : bits .and .i64 (a : Int) (b : Int) = ((a &&& b : Nat) : Int) := by
  have hx : a &&& b < 2 ^ 63 := Nat.and_lt_two_pow _ (by omega)
  show IntKind.i64.wrap ((BitVec.ofInt 64 (a : Int) &&& BitVec.ofInt 64 (b : Int)).toNat : Int) = _
  rw [BitVec.toNat_and, set_ofInt a ha, set_ofInt b hb, IntKind.wrap_i64]
  omega
theorem set_odd : ∀ n : Fin 21, 1 ≤ n.val → 1 ≤ 349525 &&& (2 ^ n.val - 1) ∧ 349525 &&& (2 ^ n.val - 1) < 2 ^ n.val := by decide
theorem set_odd' (n : Nat) (h1 : 1 ≤ n) (h2 : n ≤ 20) : ∃ v : Int, bits .and .i64 349525 ((2 : Int) ^ n - 1) = v ∧ 1 ≤ v ∧ v < 2 ^ n := by
  obtain ⟨a, b⟩ := set_odd ⟨n, by omega⟩ h1
  simp only at a b
  have hp : 2 ^ n ≤ 2 ^ 20 := Nat.pow_le_pow_right (by omega) h2
  have hp1 : 0 < 2 ^ n := Nat.two_pow_pos n
  have e : (2 : Int) ^ n - 1 = ((2 ^ n - 1 : Nat) : Int) := by
    rw [Int.natCast_sub (by omega), Int.natCast_pow]
    rfl
  refine ⟨_, rfl, ?_, ?_⟩
  · rw [e, show (349525 : Int) = ((349525 : Nat) : Int) by rfl, set_and _ _ (by omega) (by omega)]
    omega
  · rw [e, show (349525 : Int) = ((349525 : Nat) : Int) by rfl, set_and _ _ (by omega) (by omega)]
    rw [show (2 : Int) ^ n = ((2 ^ n : Nat) : Int) by rw [Int.natCast_pow]; rfl]
    omega

set_option maxHeartbeats 4000000 in
set_option maxRecDepth 100000 in
theorem set_any (n : Nat) (h1 : 1 ≤ n) (h2 : n ≤ 20) (g c k : Nat) (A : Option Addr) (L : List Int) (w : World) (h : DiceAt w g A L c k) :
    Calls Tryd.prog 21 #[.pointer (some ⟨g, 0, none⟩), .int .i64 (n : Int)] w (SetP n g c A L w) := by
  have HN := hid (fun (W : World) k n hn (h : DiceAt W g A L c k) => next_at g c k A L n hn W h)
  have HD := hid h
  have hp : (2 : Int) ^ n ≤ 1048576 := by
    have : 2 ^ n ≤ 2 ^ 20 := Nat.pow_le_pow_right (by omega) h2
    have e : (2 : Int) ^ n = ((2 ^ n : Nat) : Int) := by rw [Int.natCast_pow]; rfl
    omega
  have hp2 : (2 : Int) ≤ 2 ^ n := by
    have : 2 ^ 1 ≤ 2 ^ n := Nat.pow_le_pow_right (by omega) h1
    have e : (2 : Int) ^ n = ((2 ^ n : Nat) : Int) := by rw [Int.natCast_pow]; rfl
    omega
  obtain ⟨V, hV, hV1, hV2⟩ := set_odd' n h1 h2
  clear h
  go_enter Tryd.func21, Tryd.ntmps21
  go_wp2_with fail
  refine (HN.out _ _ _ (by omega) HD.out).mono ?_
  rintro e w2 ⟨rfl, hd2, hR2⟩
  obtain ⟨r, hr⟩ : ∃ r, rollV L k 4 = r := ⟨_, rfl⟩
  rw [hr]
  have HD2 := hid hd2
  have HR2 := hid hR2
  clear hr hd2 hR2
  by_cases e0 : r = 0
  · subst e0
    go_wp2_with fail
    go_ret
    exact ⟨⟨2 ^ n - 1, rfl, by omega, by omega⟩, ⟨_, HD2.out⟩, HR2.out⟩
  · have e0' : (r == 0) = false := by simpa using e0
    by_cases e1 : r = 1
    · subst e1
      go_wp2_with fail
      go_ret
      exact ⟨⟨V, rfl, hV1, hV2⟩, ⟨_, HD2.out⟩, HR2.out⟩
    · have e1' : (r == 1) = false := by simpa using e1
      clear e0 e1
      go_wp2_with fail
      refine (HN.out _ _ _ (by omega) HD2.out).mono ?_
      rintro e w3 ⟨rfl, hd3, hR3⟩
      obtain ⟨q, hq⟩ : ∃ q, rollV L (rollK L k) (2 ^ n - 1) = q := ⟨_, rfl⟩
      have hqq := rollV_range L (rollK L k) (2 ^ n - 1) (by omega)
      rw [hq] at hqq ⊢
      have HD3 := hid hd3
      have HR3 := hid (HR2.out.trans hR3)
      clear hq hd3 hR3
      go_wp2_with fail
      go_ret
      exact ⟨⟨1 + q, rfl, by omega, by omega⟩, ⟨_, HD3.out⟩, HR3.out⟩
end Go.Proofs.YtmmphjpakoimcaaDoor
