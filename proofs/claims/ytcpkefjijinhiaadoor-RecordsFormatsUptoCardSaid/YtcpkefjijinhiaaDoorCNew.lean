/-
  The code's Valid and newReader of layer 2. Conditions: for newReader: the dialect is valid, the text has at most 65536 bytes.
-/
import Derived.Test.YtcpkefjijinhiaaDoorCRec
set_option linter.unusedVariables false
namespace Go.Proofs.YtcpkefjijinhiaaDoor
open Go Go.Proofs Go.RowKit Go.Lib

theorem valid_cases {D Q : UInt8} (h : validB D Q = true) : (D = 44 ∨ D = 59 ∨ D = 124 ∨ D = 9) ∧ (Q = 34 ∨ Q = 39) := by
  have key : ∀ (x : UInt8) (n : Nat) (m : UInt8), m.toNat = n → (x.toNat == n) = true → x = m := fun x n m hm h => UInt8.toNat_inj.1 (by rw [hm]; simpa using h)
  unfold validB at h
  simp only [Bool.and_eq_true, Bool.or_eq_true] at h
  obtain ⟨((h1 | h1) | h1) | h1, h2 | h2⟩ := h
  · exact ⟨.inl (key _ _ 44 rfl h1), .inl (key _ _ 34 rfl h2)⟩
  · exact ⟨.inl (key _ _ 44 rfl h1), .inr (key _ _ 39 rfl h2)⟩
  · exact ⟨.inr (.inl (key _ _ 59 rfl h1)), .inl (key _ _ 34 rfl h2)⟩
  · exact ⟨.inr (.inl (key _ _ 59 rfl h1)), .inr (key _ _ 39 rfl h2)⟩
  · exact ⟨.inr (.inr (.inl (key _ _ 124 rfl h1))), .inl (key _ _ 34 rfl h2)⟩
  · exact ⟨.inr (.inr (.inl (key _ _ 124 rfl h1))), .inr (key _ _ 39 rfl h2)⟩
  · exact ⟨.inr (.inr (.inr (key _ _ 9 rfl h1))), .inl (key _ _ 34 rfl h2)⟩
  · exact ⟨.inr (.inr (.inr (key _ _ 9 rfl h1))), .inr (key _ _ 39 rfl h2)⟩
set_option maxRecDepth 100000 in
theorem idx_two (q : UInt8) : (decide (0 ≤ Lib.indexByte [34, 39] q)) = (q.toNat == 34 || q.toNat == 39) := by
  have h : ∀ n : Fin 256, (decide (0 ≤ Lib.indexByte [34, 39] (UInt8.ofNat n.val))) = ((UInt8.ofNat n.val).toNat == 34 || (UInt8.ofNat n.val).toNat == 39) := by decide
  have := h ⟨q.toNat, UInt8.toNat_lt q⟩
  simpa using this
set_option maxRecDepth 100000 in
theorem idx_four (d : UInt8) : (decide (0 ≤ Lib.indexByte [44, 59, 124, 9] d)) = (d.toNat == 44 || d.toNat == 59 || d.toNat == 124 || d.toNat == 9) := by
  have h : ∀ n : Fin 256, (decide (0 ≤ Lib.indexByte [44, 59, 124, 9] (UInt8.ofNat n.val))) = ((UInt8.ofNat n.val).toNat == 44 || (UInt8.ofNat n.val).toNat == 59 || (UInt8.ofNat n.val).toNat == 124 || (UInt8.ofNat n.val).toNat == 9) := by decide
  have := h ⟨d.toNat, UInt8.toNat_lt d⟩
  simpa using this
set_option maxHeartbeats 4000000 in
theorem codeValid_any (D Q : UInt8) (w : World) : Calls Tryd.prog 10 #[dialV D Q] w fun e w' => e = .returned (.bool (validB D Q)) ∧ Below w.heap.size w w' := by
  have hv : validB D Q = (decide (0 ≤ Lib.indexByte [44, 59, 124, 9] D) && decide (0 ≤ Lib.indexByte [34, 39] Q)) := by rw [idx_two, idx_four]; rfl
  have cD := fun w => Tryd.strings_IndexByte ⟨#[44, 59, 124, 9]⟩ (D.toNat : Int) w
  have cQ := fun w => Tryd.strings_IndexByte ⟨#[34, 39]⟩ (Q.toNat : Int) w
  have e1 : ((D.toNat : Int)).toNat.toUInt8 = D := by simp
  have e2 : ((Q.toNat : Int)).toNat.toUInt8 = Q := by simp
  rw [e1] at cD
  rw [e2] at cQ
  have cD' : ∀ w, Calls Tryd.prog 27 #[.string ⟨#[44, 59, 124, 9]⟩, .int .u8 (D.toNat : Int)] w fun e w' => e = .returned (.int .i64 (Lib.indexByte [44, 59, 124, 9] D)) ∧ w' = w := cD
  have cQ' : ∀ w, Calls Tryd.prog 27 #[.string ⟨#[34, 39]⟩, .int .u8 (Q.toNat : Int)] w fun e w' => e = .returned (.int .i64 (Lib.indexByte [34, 39] Q)) ∧ w' = w := cQ
  rw [hv]
  clear hv cD cQ e1 e2
  generalize Lib.indexByte [44, 59, 124, 9] D = i at *
  generalize Lib.indexByte [34, 39] Q = j at *
  unfold dialV
  by_cases hi : 0 ≤ i
  · have hd : decide (0 ≤ i) = true := decide_eq_true hi
    rw [hd]
    go_enter Tryd.func10, Tryd.ntmps10
    go_wp2_with fail
    refine (cD' _).mono ?_
    rintro e w1 ⟨rfl, rfl⟩
    go_wp2_with fail
    refine (cQ' _).mono ?_
    rintro e w1 ⟨rfl, rfl⟩
    go_wp2
    go_ret
    exact ⟨by simp, (Below.refl _ w).alloc (Nat.le_refl _) _⟩
  · have hd : decide (0 ≤ i) = false := decide_eq_false hi
    rw [hd]
    go_enter Tryd.func10, Tryd.ntmps10
    go_wp2_with fail
    refine (cD' _).mono ?_
    rintro e w1 ⟨rfl, rfl⟩
    go_wp2
    go_ret
    exact ⟨by simp, (Below.refl _ w).alloc (Nat.le_refl _) _⟩

set_option maxHeartbeats 4000000 in
theorem newReader_any (S : ByteArray) (D Q : UInt8) (w : World) (hS : S.size ≤ 65536) (hv : validB D Q = true) :
    Calls Tryd.prog 39 #[.string S, dialV D Q] w fun e w' => ∃ g, e = .returned (.pointer (some ⟨g, 0, none⟩)) ∧ w.heap.size ≤ g ∧ CRd w' g S D Q 0 (.slice none 0 0) ∧ Below w.heap.size w w' := by
  obtain ⟨hD, hQ⟩ := valid_cases hv
  unfold dialV
  clear hv
  rcases hD with rfl | rfl | rfl | rfl <;> rcases hQ with rfl | rfl
  all_goals
    go_enter Tryd.func39, Tryd.ntmps39
    go_wp2
    go_ret
    refine ⟨w.heap.size + 1, rfl, by omega, ⟨?_, by simp, hS⟩, ?_⟩
    · refine (heap_alloc2_new _ _ _).trans ?_
      rw [lineOf_zero]
      rfl
    · exact ((Below.refl _ w).alloc (Nat.le_refl _) _).alloc (by simp) _
end Go.Proofs.YtcpkefjijinhiaaDoor
