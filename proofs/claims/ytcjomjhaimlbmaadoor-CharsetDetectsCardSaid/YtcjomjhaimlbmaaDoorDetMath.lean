/-
  What Detect returns, as a function of the bytes; that what it detects is decoded without damage, unless the mark is at the beginning. No program, no conditions.
-/
import Derived.Test.YtcjomjhaimlbmaaDoorStep
import Derived.Test.YtcjomjhaimlbmaaDoorEncMath
set_option linter.unusedVariables false
namespace Go.Proofs.YtcjomjhaimlbmaaDoor
open Go Go.Proofs Go.RowKit Go.Lib

/-- All bytes are below 128. -/
def ascB (l : List UInt8) : Bool := l.all fun b => decide (b.toNat < 128)
theorem ascB_take_succ (l : List UInt8) (i x : Nat) (hi : i < l.length) (hx : l[i].toNat = x) : ascB (l.take (i + 1)) = (ascB (l.take i) && decide (x < 128)) := by
  unfold ascB
  rw [List.take_add_one, List.all_append, List.getElem?_eq_getElem hi, ← hx]
  simp
theorem ascB_take_le (l : List UInt8) (i : Nat) (h : ascB (l.take i) = false) : ascB l = false := by
  have e : ascB l = (ascB (l.take i) && ascB (l.drop i)) := by
    unfold ascB
    rw [← List.all_append, List.take_append_drop]
  rw [e, h, Bool.false_and]

theorem decodeN_big (n b0 b1 b2 b3 : Nat) (h0 : 128 ≤ b0) : 127 < (decodeN n b0 b1 b2 b3).1 := by
  unfold decodeN
  repeat' split
  all_goals (simp only; omega)
theorem decodeL_big (l : List UInt8) (h : 128 ≤ (l.getD 0 0).toNat) : 127 < (decodeL l).1 := by
  rw [decodeL_N]
  exact decodeN_big _ _ _ _ _ h

theorem bigB_asc (l : List UInt8) : bigB 127 l = !(ascB l) := by
  refine toks_ind (C := fun _ l => bigB 127 l = !(ascB l)) (fun _ => rfl) (fun _ l hne ih => ?_) l.length 0 l (Nat.le_refl _)
  match l, hne with
  | a :: t, _ =>
    by_cases ha : a.toNat < 128
    · rw [decodeL_ascii a t ha] at ih
      unfold bigB at ih ⊢
      rw [runesL_step (a :: t) (by simp), decodeL_ascii a t ha]
      simp only [List.drop_succ_cons, List.drop_zero] at ih ⊢
      rw [List.any_cons, ih]
      have e1 : decide (127 < a.toNat) = false := decide_eq_false (by omega)
      have e2 : decide (a.toNat < 128) = true := decide_eq_true ha
      unfold ascB
      rw [List.all_cons, e1, e2]
      simp
    · have e2 : decide (a.toNat < 128) = false := decide_eq_false ha
      have hb : 127 < (decodeL (a :: t)).1 := decodeL_big (a :: t) (by show 128 ≤ a.toNat; omega)
      unfold bigB ascB
      rw [runesL_step (a :: t) (by simp), List.any_cons, List.all_cons, e2, decide_eq_true hb]
      simp

/-- What Detect returns. -/
def detB (l : List UInt8) : Int := if markB l = true then 3 else if ascB l = true then 1 else if properB l = true then 3 else 2
theorem detB_range (l : List UInt8) : detB l = 1 ∨ detB l = 2 ∨ detB l = 3 := by
  unfold detB
  split
  · simp
  · split
    · simp
    · split <;> simp
theorem markB_nil : markB [] = false := by decide
theorem detB_nil : detB [] = 1 := by
  unfold detB
  rw [if_neg (by rw [markB_nil]; simp), if_pos (show ascB [] = true from rfl)]
theorem markB_first (l : List UInt8) : markB l = decide ((decodeL l).1 = 65279) := by
  unfold markB
  exact decide_eq_decide.2 (mark_iff l).symm

theorem dmgT_none (ts : List Tok) (h : ∀ t ∈ ts, t.bad = false) : dmgT ts = [] := by
  unfold dmgT
  rw [List.filter_eq_nil_iff.2 (fun t ht => by rw [h t ht]; simp)]
  rfl
theorem sings_good (g : Nat) : ∀ (p : Nat) (l : List UInt8), (∀ b ∈ l, b.toNat ≤ g) → ∀ t ∈ sings g p l, t.bad = false
  | _, [], _, t, ht => by simp [sings] at ht
  | p, b :: l, h, t, ht => by
    simp only [sings, List.mem_cons] at ht
    rcases ht with rfl | ht
    · have := h b (by simp)
      simp only [decide_eq_false_iff_not]
      omega
    · exact sings_good g (p + 1) l (fun c hc => h c (by simp [hc])) t ht
theorem ascB_le (l : List UInt8) (h : ascB l = true) : ∀ b ∈ l, b.toNat ≤ 127 := fun b hb => by
  have := List.all_eq_true.1 h b hb
  have := of_decide_eq_true this
  omega
/-- What Detect returns is decoded without damage, unless the mark is at the beginning. -/
theorem det_good (l : List UInt8) (hm : markB l = false) : dmgT (tokens (detB l) l) = [] := by
  apply dmgT_none
  unfold detB
  rw [if_neg (by rw [hm]; simp)]
  by_cases ha : ascB l = true
  · rw [if_pos ha]
    exact sings_good 127 0 l (ascB_le l ha)
  · rw [if_neg ha]
    by_cases hp : properB l = true
    · rw [if_pos hp]
      have ht : tokens 3 l = toks 0 l := by
        unfold tokens
        unfold markB at hm
        rw [if_pos rfl, if_neg (of_decide_eq_false hm)]
      rw [ht]
      exact (validD_toks 0 l).1 (by rw [proper_valid]; exact hp)
    · rw [if_neg hp]
      exact sings_good 255 0 l (fun b _ => by have := b.toNat_lt; omega)
end Go.Proofs.YtcjomjhaimlbmaaDoor
