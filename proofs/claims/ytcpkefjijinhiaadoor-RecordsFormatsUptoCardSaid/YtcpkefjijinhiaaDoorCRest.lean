/-
  The code's reader of layer 2: rest, restOfLine, column, pass, passTo, skipLine, as functions of the place. Conditions: the reader lies in memory; its text has at most 65536 bytes.
-/
import Derived.Test.YtcpkefjijinhiaaDoorCRd
set_option linter.unusedVariables false
namespace Go.Proofs.YtcpkefjijinhiaaDoor
open Go Go.Proofs Go.RowKit Go.Lib

set_option maxHeartbeats 1000000 in
theorem cut65 (s : Str) (c : UInt8) (w : World) (hs : s.length ≤ 65536) :
    Calls Tryd.prog 65 #[strV s, .string ⟨#[c]⟩] w fun e w' => e = .returned (.tuple #[strV (bef c s), strV (aft c s), .bool (has c s)]) ∧ ∃ n, w' = w.drewN n := by
  have cI := cut79 s c w hs
  obtain ⟨v0, hv0⟩ : ∃ v, strV s = v := ⟨_, rfl⟩
  obtain ⟨v1, hv1⟩ : ∃ v, strV (bef c s) = v := ⟨_, rfl⟩
  obtain ⟨v2, hv2⟩ : ∃ v, strV (aft c s) = v := ⟨_, rfl⟩
  rw [hv0, hv1, hv2] at cI ⊢
  clear hv0 hv1 hv2
  go_enter Tryd.func65, Tryd.ntmps65
  go_wp2_with fail
  refine cI.mono ?_
  rintro e w' ⟨rfl, n, rfl⟩
  go_wp2
  go_ret3
  exact ⟨rfl, n, rfl⟩
theorem prefix_one (s : Str) (c : UInt8) (w : World) : Calls Tryd.prog 49 #[strV s, .string ⟨#[c]⟩] w fun e w' => e = .returned (.bool (s.head? == some c)) ∧ w' = w := by
  refine (Tryd.strings_HasPrefix ⟨s.toArray⟩ ⟨#[c]⟩ w).mono fun e w' h => ⟨?_, h.2⟩
  rw [h.1]
  congr 2
  show List.isPrefixOf [c] s = _
  cases s with
  | nil => rfl
  | cons x r =>
    show (c == x && List.isPrefixOf [] r) = _
    rw [show List.isPrefixOf [] r = true by cases r <;> rfl, Bool.and_true]
    show (c == x) = (some x == some c)
    rw [show (some x == some c) = (x == c) from rfl]
    exact Bool.beq_comm
theorem trim_line (s : Str) (w : World) (hs : s.length ≤ 65536) : Calls Tryd.prog 66 #[strV (bef 10 s), .string ⟨#[13]⟩] w fun e w' => e = .returned (strV (lineS s)) ∧ w' = w := by
  refine (Tryd.strings_TrimSuffix ⟨(bef 10 s).toArray⟩ ⟨#[13]⟩ w (by show (bef 10 s).length ≤ _; have := bef_le 10 s; omega)).mono fun e w' h => ⟨?_, h.2⟩
  rw [h.1]
  show Ending.returned (strV (Lib.trimSuffix (bef 10 s) [13])) = _
  rw [lineS_eq]
theorem trim_first (s : Str) (c : UInt8) (w : World) (h : s.head? = some c) : Calls Tryd.prog 82 #[strV s, .string ⟨#[c]⟩] w fun e w' => e = .returned (strV (s.drop 1)) ∧ w' = w := by
  refine (Tryd.strings_TrimPrefix ⟨s.toArray⟩ ⟨#[c]⟩ w).mono fun e w' h' => ⟨?_, h'.2⟩
  rw [h'.1]
  show Ending.returned (strV (Lib.trimPrefix s [c])) = _
  have : Lib.hasPrefix s [c] = true := by
    cases s with
    | nil => simp at h
    | cons x r =>
      simp at h
      subst h
      show (x == x && List.isPrefixOf [] r) = true
      rw [show List.isPrefixOf [] r = true by cases r <;> rfl]
      simp
  unfold Lib.trimPrefix
  rw [if_pos this]
  rfl

theorem CRd.c0 {w : World} {g a : Nat} {S : ByteArray} {D Q : UInt8} {pv : Value} (h : CRd w g S D Q a pv) : w.cell? ⟨g, 0, none⟩ = some (.int .i64 (a : Int)) := cell_at h.cells 0
theorem CRd.c1 {w : World} {g a : Nat} {S : ByteArray} {D Q : UInt8} {pv : Value} (h : CRd w g S D Q a pv) : w.cell? ⟨g, 1, none⟩ = some (.int .i64 (lineOf (lst S) a : Int)) := cell_at h.cells 1
theorem CRd.c2 {w : World} {g a : Nat} {S : ByteArray} {D Q : UInt8} {pv : Value} (h : CRd w g S D Q a pv) : w.cell? ⟨g, 2, none⟩ = some (.int .i64 (begOf (lst S) a : Int)) := cell_at h.cells 2
theorem CRd.c3 {w : World} {g a : Nat} {S : ByteArray} {D Q : UInt8} {pv : Value} (h : CRd w g S D Q a pv) : w.cell? ⟨g, 3, none⟩ = some (.string S) := cell_at h.cells 3
theorem CRd.c4 {w : World} {g a : Nat} {S : ByteArray} {D Q : UInt8} {pv : Value} (h : CRd w g S D Q a pv) : w.cell? ⟨g, 4, none⟩ = some (.string ⟨#[D]⟩) := cell_at h.cells 4
theorem CRd.c5 {w : World} {g a : Nat} {S : ByteArray} {D Q : UInt8} {pv : Value} (h : CRd w g S D Q a pv) : w.cell? ⟨g, 5, none⟩ = some (.string ⟨#[Q]⟩) := cell_at h.cells 5
theorem CRd.c6 {w : World} {g a : Nat} {S : ByteArray} {D Q : UInt8} {pv : Value} (h : CRd w g S D Q a pv) : w.cell? ⟨g, 6, none⟩ = some pv := cell_at h.cells 6
theorem CRd.free {w : World} {g a : Nat} {S : ByteArray} {D Q : UInt8} {pv : Value} (h : CRd w g S D Q a pv) (j : Nat) : w.frozen? ⟨g, j, none⟩ = false := free_at h.cells j

set_option maxHeartbeats 1000000 in
theorem rest_any (g a : Nat) (S : ByteArray) (D Q : UInt8) (pv : Value) (w : World) (h : CRd w g S D Q a pv) :
    Calls Tryd.prog 51 #[.pointer (some ⟨g, 0, none⟩)] w fun e w' => e = .returned (strV ((lst S).drop a)) ∧ ∃ q, w' = w.drewN q := by
  have h0 := h.c0
  have h3 := h.c3
  have hle := h.le
  have hs := h.small
  have c1 : (a : Int) ≤ (S.size : Int) := by omega
  have v : Value.string (S.extract a S.size) = strV ((lst S).drop a) := by
    rw [extract_val, List.take_of_length_le]
    rw [List.length_drop, ← Lib.size_eq]
    omega
  rw [← v]
  clear h hle hs v
  go_enter Tryd.func51, Tryd.ntmps51
  go_wp2
  go_quiet (fail)
  go_wp2
  go_ret
  exact ⟨rfl, _, rfl⟩
set_option maxHeartbeats 1000000 in
theorem col_any (g a : Nat) (S : ByteArray) (D Q : UInt8) (pv : Value) (w : World) (h : CRd w g S D Q a pv) :
    Calls Tryd.prog 54 #[.pointer (some ⟨g, 0, none⟩)] w fun e w' => e = .returned (.int .i64 (colP (lst S) a)) ∧ ∃ q, w' = w.drewN q := by
  have h0 := h.c0
  have h2 := h.c2
  have hle := h.le
  have hs := h.small
  have hb := begOf_le (lst S) a
  have e1 : IntKind.i64.wrap ((a : Int) - (begOf (lst S) a : Int)) = (a : Int) - (begOf (lst S) a : Int) := IntWalk.i64_in _ (by omega)
  have e2 : IntKind.i64.wrap ((a : Int) - (begOf (lst S) a : Int) + 1) = (a : Int) - (begOf (lst S) a : Int) + 1 := IntWalk.i64_in _ (by omega)
  unfold colP
  clear h hle hs hb
  go_enter Tryd.func54, Tryd.ntmps54
  go_wp2
  go_quiet (fail)
  go_wp2
  go_ret
  exact ⟨rfl, _, rfl⟩
set_option maxHeartbeats 1000000 in
theorem restOfLine_any (g a : Nat) (S : ByteArray) (D Q : UInt8) (pv : Value) (w : World) (h : CRd w g S D Q a pv) :
    Calls Tryd.prog 52 #[.pointer (some ⟨g, 0, none⟩)] w fun e w' => e = .returned (strV (lineS ((lst S).drop a))) ∧ ∃ q, w' = w.drewN q := by
  have hlen : ((lst S).drop a).length ≤ 65536 := by rw [List.length_drop, ← Lib.size_eq]; have := h.small; omega
  have cR := rest_any g a S D Q pv w h
  have cC := fun w => cut65 ((lst S).drop a) 10 w hlen
  have cT := fun w => trim_line ((lst S).drop a) w hlen
  clear h hlen
  generalize (lst S).drop a = s at *
  obtain ⟨v0, hv0⟩ : ∃ v, strV s = v := ⟨_, rfl⟩
  obtain ⟨v1, hv1⟩ : ∃ v, strV (bef 10 s) = v := ⟨_, rfl⟩
  obtain ⟨v2, hv2⟩ : ∃ v, strV (aft 10 s) = v := ⟨_, rfl⟩
  obtain ⟨v3, hv3⟩ : ∃ v, strV (lineS s) = v := ⟨_, rfl⟩
  rw [hv0] at cR
  simp only [hv0, hv1, hv2] at cC
  simp only [hv1, hv3] at cT
  rw [hv3]
  clear hv0 hv1 hv2 hv3
  go_enter Tryd.func52, Tryd.ntmps52
  go_wp2_with fail
  refine cR.mono ?_
  rintro e w1 ⟨rfl, q1, rfl⟩
  go_wp2_with fail
  refine (cC _).mono ?_
  rintro e w1 ⟨rfl, q2, rfl⟩
  go_wp2_with fail
  refine (cT _).mono ?_
  rintro e w1 ⟨rfl, rfl⟩
  go_wp2
  go_ret
  exact ⟨rfl, _, rfl⟩
end Go.Proofs.YtcpkefjijinhiaaDoor
