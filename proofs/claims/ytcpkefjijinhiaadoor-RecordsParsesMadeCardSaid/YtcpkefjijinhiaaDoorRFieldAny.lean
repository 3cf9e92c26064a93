/-
  The reference's field of a record, quoted or not, out of its two halves. Conditions: none (the quoted half is a hypothesis).
-/
import Derived.Test.YtcpkefjijinhiaaDoorAgree
set_option linter.unusedVariables false
namespace Go.Proofs.YtcpkefjijinhiaaDoor
open Go Go.Proofs Go.RowKit Go.Lib

/-- What the reference's field does with a quoted field. -/
def QuotAll : Prop := ∀ (g a : Nat) (S : ByteArray) (D Q : UInt8) (w : World) (h : RdrAt w g S a) (hD : D.toNat ≠ 10) (hQ : Q.toNat ≠ 10) (hlt : a < S.size) (hx : (S[a]'hlt).toNat = Q.toNat),
  Calls Tryd.prog 60 #[.pointer (some ⟨g, 0, none⟩), .agg #[.int .u8 D.toNat, .int .u8 Q.toNat]] w (FieldOut g S w (quotP (lst S) D Q a))
theorem validB_ne {D Q : UInt8} (h : validB D Q = true) : D.toNat ≠ 10 ∧ Q.toNat ≠ 10 := by
  unfold validB at h
  simp at h
  omega
theorem fieldAll_of (hq : QuotAll) : FieldAll := by
  intro S D Q g a w hv h
  obtain ⟨hD, hQ⟩ := validB_ne hv
  unfold fieldP
  split
  · rename_i hh
    have hlt : a < S.size := by
      rcases Nat.lt_or_ge a S.size with h' | h'
      · exact h'
      · rw [List.drop_of_length_le (by rw [← Lib.size_eq]; exact h')] at hh
        simp at hh
    refine hq g a S D Q w h hD hQ hlt ?_
    rw [show (lst S).drop a = S[a]'hlt :: (lst S).drop (a + 1) from drop_at S a hlt] at hh
    simp only [List.head?_cons] at hh
    injection hh with hh
    rw [hh]
  · rename_i hh
    exact rfield_plain g a S D Q w h hD hQ hh
end Go.Proofs.YtcpkefjijinhiaaDoor
