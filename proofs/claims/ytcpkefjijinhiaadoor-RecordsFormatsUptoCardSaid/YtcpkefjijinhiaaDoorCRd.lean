/-
  The code's reader of layer 2 in memory; what it has not read, the line that is left. Conditions: the reader lies in memory; its text has at most 65536 bytes.
-/
import Derived.Test.YtcpkefjijinhiaaDoorRField
import Derived.Test.YtcpkefjijinhiaaDoorShelf
import Derived.Test.YtcpkefjijinhiaaDoorBuilder
set_option linter.unusedVariables false
namespace Go.Proofs.YtcpkefjijinhiaaDoor
open Go Go.Proofs Go.RowKit Go.Lib

/-- The code's reader in block g, at a place of the text S. -/
structure CRd (w : World) (g : Nat) (S : ByteArray) (D Q : UInt8) (a : Nat) (pv : Value) : Prop where
  cells : w.heap[g]? = some (.cells #[.int .i64 (a : Int), .int .i64 (lineOf (lst S) a : Int), .int .i64 (begOf (lst S) a : Int), .string S, .string ⟨#[D]⟩, .string ⟨#[Q]⟩, pv] 86 (0, 0))
  le : a ≤ S.size
  small : S.size ≤ 65536
theorem CRd.rolled {w w' : World} {g a : Nat} {S : ByteArray} {D Q : UInt8} {pv : Value} (h : CRd w g S D Q a pv) (hr : w'.heap[g]? = w.heap[g]?) : CRd w' g S D Q a pv := ⟨hr.trans h.cells, h.le, h.small⟩
theorem CRd.drawn {w : World} {g a : Nat} {S : ByteArray} {D Q : UInt8} {pv : Value} (h : CRd w g S D Q a pv) (n : Nat) : CRd (w.drewN n) g S D Q a pv := h.rolled (drewN_heap w n g)

/-! ### the library -/
theorem strV_mk (l : Str) : strV l = .string ⟨l.toArray⟩ := rfl
theorem strV_lst (S : ByteArray) : Value.string S = strV (lst S) := by
  unfold strV
  congr 1
theorem lst_mk (l : Str) : (⟨l.toArray⟩ : ByteArray).data.toList = l := rfl
theorem size_mk (l : Str) : (⟨l.toArray⟩ : ByteArray).size = l.length := rfl
set_option maxHeartbeats 1000000 in
theorem cut79 (s : Str) (c : UInt8) (w : World) (hs : s.length ≤ 65536) :
    Calls Tryd.prog 79 #[strV s, .string ⟨#[c]⟩] w fun e w' => e = .returned (.tuple #[strV (bef c s), strV (aft c s), .bool (has c s)]) ∧ ∃ n, w' = w.drewN n := by
  have cI := fun w => Tryd.stringslite_Index_one ⟨s.toArray⟩ c w
  have hi := indexByte_bef c s
  have hsz : (⟨s.toArray⟩ : ByteArray).size = s.length := rfl
  cases hc : has c s with
  | false =>
    obtain ⟨e1, e2⟩ := bef_miss c s hc
    rw [e1, e2]
    rw [hc, if_neg (by decide)] at hi
    have cI' : ∀ w, Calls Tryd.prog 91 #[strV s, .string ⟨#[c]⟩] w fun e w' => e = .returned (.int .i64 (-1)) ∧ w' = w := fun w => (cI w).mono fun e w' h => ⟨by rw [h.1, ← hi], h.2⟩
    clear cI hi e1 e2 hc
    unfold strV at *
    go_enter Tryd.func79, Tryd.ntmps79
    go_wp2_with (go_at_call 91; refine (cI' _).mono ?_; rintro e w' ⟨rfl, rfl⟩)
    go_ret3
    exact ⟨rfl, 0, rfl⟩
  | true =>
    rw [hc, if_pos rfl] at hi
    have hb := bef_le c s
    have h0 := congrArg List.length (bef_hit c s hc)
    simp only [List.length_append, List.length_cons] at h0
    have ht := bef_take c s
    have hd := aft_drop c s hc
    obtain ⟨k, hk⟩ : ∃ k, (bef c s).length = k := ⟨_, rfl⟩
    rw [hk] at hi hb ht hd h0
    have cI' : ∀ w, Calls Tryd.prog 91 #[strV s, .string ⟨#[c]⟩] w fun e w' => e = .returned (.int .i64 (k : Int)) ∧ w' = w := fun w => (cI w).mono fun e w' h => ⟨by rw [h.1, ← hi], h.2⟩
    have v1 : Value.string ((⟨s.toArray⟩ : ByteArray).extract 0 k) = strV (bef c s) := by
      rw [extract_val]
      show strV ((s.drop 0).take (k - 0)) = _
      rw [List.drop_zero, Nat.sub_zero, ht]
    have v2 : Value.string ((⟨s.toArray⟩ : ByteArray).extract (k + 1) s.length) = strV (aft c s) := by
      rw [extract_val]
      show strV ((s.drop (k + 1)).take (s.length - (k + 1))) = _
      rw [hd, List.take_of_length_le]
      omega
    have c2 : (k : Int) ≤ (s.length : Int) := by omega
    have c4 : ((k : Int) + 1 ≤ (s.length : Int)) := by omega
    have e1 : IntKind.i64.wrap ((k : Int) + 1) = (k : Int) + 1 := IntWalk.i64_in _ (by omega)
    have V1 := hid v1
    have V2 := hid v2
    clear cI hi hb h0 ht hd hk hc v1 v2
    rw [← V1.out, ← V2.out]
    unfold strV at *
    go_enter Tryd.func79, Tryd.ntmps79
    go_wp2_with (go_at_call 91; refine (cI' _).mono ?_; rintro e w' ⟨rfl, rfl⟩)
    go_region
    all_goals
      go_wp2
      go_ret3
      exact ⟨rfl, 1, rfl⟩
end Go.Proofs.YtcpkefjijinhiaaDoor
