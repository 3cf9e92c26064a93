/-
  What is formatted is parsed again: plain mathematics over the functions fmtM and parseM. No program, no conditions.
-/
import Derived.Test.YtcpkefjijinhiaaDoorPSpec
set_option linter.unusedVariables false
namespace Go.Proofs.YtcpkefjijinhiaaDoor
open Go Go.Proofs Go.RowKit Go.Lib

theorem valid_parts {D Q : UInt8} (h : validB D Q = true) : (D ≠ 10 ∧ D ≠ 13 ∧ D ≠ 35 ∧ D ≠ Q) ∧ (Q ≠ 10 ∧ Q ≠ 13 ∧ Q ≠ 35) := by
  unfold validB at h
  simp only [Bool.and_eq_true, Bool.or_eq_true, beq_iff_eq] at h
  obtain ⟨hD, hQ⟩ := h
  have hD' : D = 44 ∨ D = 59 ∨ D = 124 ∨ D = 9 := by
    rcases hD with ((h | h) | h) | h
    · exact .inl (UInt8.toNat_inj.1 h)
    · exact .inr (.inl (UInt8.toNat_inj.1 h))
    · exact .inr (.inr (.inl (UInt8.toNat_inj.1 h)))
    · exact .inr (.inr (.inr (UInt8.toNat_inj.1 h)))
  have hQ' : Q = 34 ∨ Q = 39 := by
    rcases hQ with h | h
    · exact .inl (UInt8.toNat_inj.1 h)
    · exact .inr (UInt8.toNat_inj.1 h)
  rcases hD' with rfl | rfl | rfl | rfl <;> rcases hQ' with rfl | rfl <;> decide
theorem not_end (c : UInt8) (t : Str) (h1 : c ≠ 10) (h2 : c ≠ 13) : endL (c :: t) = false := by
  rw [endL_cons]
  have e1 : (c.toNat == 10) = false := by simpa using fun e => h1 ((toNat10 c).1 e)
  have e2 : (c.toNat == 13) = false := by simpa using fun e => h2 ((toNat13 c).1 e)
  rw [e1, e2]; rfl
theorem lineS_app : ∀ (s t : Str), (∀ c ∈ s, c ≠ 10 ∧ c ≠ 13) → lineS (s ++ t) = s ++ lineS t
  | [], t, _ => rfl
  | c :: s, t, h => by
    have hc := h c (by simp)
    show lineS (c :: (s ++ t)) = _
    rw [lineS_cons c _ (not_end c _ hc.1 hc.2), lineS_app s t (fun x hx => h x (List.mem_cons_of_mem _ hx))]
    rfl
theorem has_none (c : UInt8) : ∀ (s : Str), (∀ x ∈ s, x ≠ c) → has c s = false
  | [], _ => rfl
  | x :: s, h => by
    unfold has
    rw [has_none c s (fun y hy => h y (List.mem_cons_of_mem _ hy))]
    simpa using h x (by simp)
theorem qEnd_esc (Q : UInt8) : ∀ (s r : Str), r.head? ≠ some Q → qEnd Q (escF Q true s ++ Q :: r) = some (s, (escF Q true s).length + 1)
  | [], r, h => by
    show qEnd Q (Q :: r) = _
    rw [qEnd_one _ _ h]
    rfl
  | c :: s, r, h => by
    have ih := qEnd_esc Q s r h
    rw [escF_cons]
    by_cases e : c = Q
    · subst e
      rw [if_pos (by simp)]
      show qEnd c (c :: c :: (escF c true s ++ c :: r)) = _
      rw [qEnd_two, ih]
      simp
    · rw [if_neg (by simpa using fun e' => e (UInt8.toNat_inj.1 e'))]
      show qEnd Q (c :: (escF Q true s ++ Q :: r)) = _
      rw [qEnd_other _ _ _ e, ih]
      simp
theorem escF_plain (Q : UInt8) : ∀ (s : Str), escF Q false s = s
  | [] => rfl
  | c :: s => by rw [escF_cons, escF_plain Q s]; simp
/-- A field without its delimiter. -/
def bodyF (D Q : UInt8) (k : Nat) (only : Bool) (s : Str) : Str := markF Q (needB D Q s (k == 0) only) ++ (escF Q (needB D Q s (k == 0) only) s ++ markF Q (needB D Q s (k == 0) only))
theorem need_no {D Q : UInt8} {s : Str} {first only : Bool} (h : needB D Q s first only = false) : ∀ c ∈ s, c ≠ D ∧ c ≠ Q ∧ c ≠ 10 ∧ c ≠ 13 := by
  unfold needB at h
  split at h
  · rename_i e; subst e; intro c hc; simp at hc
  · split at h
    · simp at h
    · intro c hc
      rw [List.any_eq_false] at h
      have := h c hc
      simp only [wantC, Bool.or_eq_true, beq_iff_eq, not_or] at this
      obtain ⟨⟨⟨h1, h2⟩, h3⟩, h4⟩ := this
      exact ⟨fun e => h1 (by rw [e]), fun e => h2 (by rw [e]), fun e => h3 (by rw [e]; rfl), fun e => h4 (by rw [e]; rfl)⟩
theorem need_first {D Q c : UInt8} {s : Str} {only : Bool} (h : needB D Q (c :: s) true only = false) : c ≠ 35 := by
  unfold needB at h
  rw [if_neg (by simp)] at h
  rintro rfl
  simp at h
theorem need_nil {D Q : UInt8} {first only : Bool} (h : needB D Q [] first only = false) : only = false := by
  unfold needB at h
  simpa using h
theorem drop_add {L : Str} {a : Nat} {s r : Str} (h : L.drop a = s ++ r) : L.drop (a + s.length) = r := by
  rw [← List.drop_drop, h, List.drop_left]
theorem fieldP_body (L : Str) (D Q : UInt8) (hv : validB D Q = true) (k : Nat) (only : Bool) (s : Str) (a : Nat) (r : Str) (hL : L.drop a = bodyF D Q k only s ++ r) (hr : r.head? = some D ∨ r.head? = some 10) :
    fieldP L D Q a = .ok ⟨s, colP L a, needB D Q s (k == 0) only⟩ (a + (bodyF D Q k only s).length) := by
  obtain ⟨⟨d1, d2, d3, d4⟩, q1, q2, q3⟩ := valid_parts hv
  have hrQ : r.head? ≠ some Q := by
    rcases hr with h | h <;> rw [h] <;> intro e <;> injection e with e
    · exact d4 e
    · exact q1 e.symm
  have hre : endL r = true ∨ r.head? = some D := by
    rcases hr with h | h
    · exact .inr h
    · cases r with
      | nil => simp at h
      | cons x t =>
        obtain rfl : x = 10 := by simpa using h
        exact .inl (by rw [endL_cons]; rfl)
  have hbl : bef D (lineS r) = [] := by
    cases r with
    | nil => simp at hr
    | cons x t =>
      rcases hr with h | h
      · obtain rfl : x = D := by simpa using h
        rw [lineS_cons x t (not_end x t d1 d2), bef, if_pos rfl]
      · obtain rfl : x = 10 := by simpa using h
        rw [(lineS_nil_iff _).2 (by rw [endL_cons]; rfl)]
        rfl
  unfold bodyF at hL ⊢
  cases hN : needB D Q s (k == 0) only with
  | true =>
    rw [hN] at hL
    have hL' : L.drop a = Q :: (escF Q true s ++ Q :: r) := by rw [hL]; simp [markF]
    have hd1 : L.drop (a + 1) = escF Q true s ++ Q :: r := by
      have := drop_add (s := [Q]) (r := escF Q true s ++ Q :: r) (by rw [hL']; rfl)
      simpa using this
    have hdn : L.drop (a + 1 + ((escF Q true s).length + 1)) = r := by
      have := drop_add (s := escF Q true s ++ [Q]) (r := r) (by rw [hd1]; simp)
      simpa using this
    unfold fieldP
    rw [if_pos (by rw [hL']; rfl)]
    unfold quotP
    rw [hd1, qEnd_esc Q s r hrQ]
    simp only
    rw [hdn, if_pos hre]
    congr 1
    simp [markF]
    omega
  | false =>
    rw [hN] at hL
    have hno := need_no hN
    have hL' : L.drop a = s ++ r := by rw [hL]; simp [markF, escF_plain]
    have hh : ¬ (L.drop a).head? = some Q := by
      rw [hL']
      cases s with
      | nil => exact hrQ
      | cons c s => intro e; injection e with e; exact (hno c (by simp)).2.1 e
    have hb : bef D (lineS (L.drop a)) = s := by
      rw [hL', lineS_app s r (fun c hc => (hno c hc).2.2), bef_app D s _ (has_none D s fun c hc => (hno c hc).1), hbl, List.append_nil]
    unfold fieldP
    rw [if_neg hh]
    unfold plainP
    rw [hb, has_none Q s fun c hc => (hno c hc).2.1]
    simp [markF, escF_plain]
theorem rowF_next (D Q : UInt8) (only : Bool) (k : Nat) (s : Str) (ls : List Str) : rowF D Q only (k + 1) (s :: ls) = D :: (bodyF D Q (k + 1) only s ++ rowF D Q only (k + 2) ls) := by
  rw [rowF, fieldF, sepF, if_neg (by omega)]
  simp [bodyF]
theorem rowF_zero (D Q : UInt8) (only : Bool) (s : Str) (ls : List Str) : rowF D Q only 0 (s :: ls) = bodyF D Q 0 only s ++ rowF D Q only 1 ls := by
  rw [rowF, fieldF, sepF, if_pos rfl]
  simp [bodyF]
theorem nxt_ten (L : Str) (x : Nat) (t : Str) (h : L.drop x = 10 :: t) : nxt L x = x + 1 ∧ L.drop (x + 1) = t ∧ x < L.length := by
  have hlt : x < L.length := by
    rcases Nat.lt_or_ge x L.length with h' | h'
    · exact h'
    · rw [List.drop_of_length_le h'] at h; simp at h
  refine ⟨?_, ?_, hlt⟩
  · unfold nxt
    rw [h, show eolN (10 :: t) = 0 by simp [eolN], Nat.add_zero, if_pos hlt]
  · have := drop_add (s := [10]) (r := t) (by rw [h]; rfl)
    simpa using this
theorem recP_row (L : Str) (D Q : UInt8) (hv : validB D Q = true) (only : Bool) : ∀ (ls : List Str) (k n : Nat) (fs : List Fld) (a : Nat) (s t : Str), ls.length + 1 ≤ n →
    L.drop a = bodyF D Q k only s ++ (rowF D Q only (k + 1) ls ++ 10 :: t) → ∃ gs x, recP L D Q n fs a = .ok (fs ++ gs) x ∧ gs.map Fld.text = s :: ls ∧ L.drop x = t
  | ls, k, 0, fs, a, s, t, hn, hL => by omega
  | [], k, n + 1, fs, a, s, t, hn, hL => by
    have hf := fieldP_body L D Q hv k only s a _ hL (.inr rfl)
    have hx := drop_add hL
    obtain ⟨h1, h2, h3⟩ := nxt_ten L _ t hx
    unfold recP
    rw [hf]
    simp only
    rw [if_pos (by rw [hx]; show endL (10 :: t) = true; rw [endL_cons]; rfl), h1]
    exact ⟨_, _, rfl, rfl, h2⟩
  | s' :: ls, k, n + 1, fs, a, s, t, hn, hL => by
    obtain ⟨⟨d1, d2, d3, d4⟩, q1, q2, q3⟩ := valid_parts hv
    have hf := fieldP_body L D Q hv k only s a _ hL (.inl (by rw [rowF_next]; rfl))
    have hx := drop_add hL
    rw [rowF_next] at hx
    have hx' : L.drop (a + (bodyF D Q k only s).length + 1) = bodyF D Q (k + 1) only s' ++ (rowF D Q only (k + 2) ls ++ 10 :: t) := by
      have := drop_add (s := [D]) (r := bodyF D Q (k + 1) only s' ++ (rowF D Q only (k + 2) ls ++ 10 :: t)) (by rw [hx]; simp)
      simpa using this
    obtain ⟨gs, x, h1, h2, h3⟩ := recP_row L D Q hv only ls (k + 1) n (fs ++ [⟨s, colP L a, needB D Q s (k == 0) only⟩]) _ s' t (by simpa using hn) hx'
    unfold recP
    rw [hf]
    simp only
    rw [if_neg (by rw [hx]; show ¬ endL (D :: _) = true; rw [not_end D _ d1 d2]; simp), h1]
    exact ⟨⟨s, colP L a, needB D Q s (k == 0) only⟩ :: gs, x, by simp, by simp [h2], h3⟩
/-- The text of records. -/
def textR (D Q : UInt8) : List (List Str) → Str
  | [] => []
  | l :: r => rowF D Q (l.length == 1) 0 l ++ 10 :: textR D Q r
theorem fmtGo_ok (D Q : UInt8) : ∀ (ls : List (List Str)) (acc : Str), (∀ l ∈ ls, 1 ≤ l.length ∧ l.length ≤ 12) → (acc ++ textR D Q ls).length ≤ 65536 → fmtGo D Q acc ls = (acc ++ textR D Q ls, 0)
  | [], acc, _, h => by
    unfold fmtGo
    rw [if_neg (by simpa [textR] using h)]
    simp [textR]
  | l :: r, acc, hl, h => by
    have := hl l (by simp)
    unfold fmtGo
    rw [if_neg (by omega), if_neg (by omega), fmtGo_ok D Q r _ (fun x hx => hl x (List.mem_cons_of_mem _ hx)) (by simpa [textR, Nat.add_assoc] using h)]
    simp [textR]
theorem parse_text (L : Str) (D Q : UInt8) (hv : validB D Q = true) : ∀ (ls : List (List Str)) (a : Nat) (out : List Rec), (∀ l ∈ ls, 1 ≤ l.length ∧ l.length ≤ 12) → L.drop a = textR D Q ls → out.length + ls.length ≤ 400 →
    ∃ rs, parseR L D Q a out [] = (out ++ rs, []) ∧ rs.map (fun r => r.fields.map Fld.text) = ls
  | [], a, out, _, hL, _ => by
    have : L.length ≤ a := by
      have := congrArg List.length hL
      rw [List.length_drop] at this
      simp [textR] at this
      omega
    exact ⟨[], by rw [parseR_end _ _ _ _ _ _ this, List.append_nil], rfl⟩
  | [] :: r, a, out, hl, _, _ => by
    have := (hl [] (by simp)).1
    simp at this
  | (s :: l) :: r, a, out, hl, hL, ho => by
    obtain ⟨⟨d1, d2, d3, d4⟩, q1, q2, q3⟩ := valid_parts hv
    have h12 := (hl (s :: l) (by simp)).2
    simp at h12 ho
    have hL' : L.drop a = bodyF D Q 0 ((s :: l).length == 1) s ++ (rowF D Q ((s :: l).length == 1) (0 + 1) l ++ 10 :: textR D Q r) := by
      rw [hL, textR, rowF_zero, List.append_assoc]
    have hlt : a < L.length := by
      have := congrArg List.length hL'
      rw [List.length_drop] at this
      simp at this
      omega
    have hst : ¬ (endL (L.drop a) = true ∨ (L.drop a).head? = some 35) := by
      rw [hL']
      unfold bodyF
      cases hN : needB D Q s (0 == 0) ((s :: l).length == 1) with
      | true =>
        show ¬ (endL (Q :: _) = true ∨ some Q = some 35)
        rw [not_end Q _ q1 q2]
        simpa using q3
      | false =>
        cases s with
        | cons c s =>
          have hc := need_no hN c (by simp)
          have h35 := need_first hN
          show ¬ (endL (c :: _) = true ∨ some c = some 35)
          rw [not_end c _ hc.2.2.1 hc.2.2.2]
          simpa using h35
        | nil =>
          have ho1 := need_nil hN
          cases l with
          | nil => simp at ho1
          | cons s' l =>
            rw [rowF_next]
            show ¬ (endL (D :: _) = true ∨ some D = some 35)
            rw [not_end D _ d1 d2]
            simpa using d3
    obtain ⟨gs, x, h1, h2, h3⟩ := recP_row L D Q hv ((s :: l).length == 1) l 0 12 [] a s (textR D Q r) (by omega) hL'
    obtain ⟨rs, h4, h5⟩ := parse_text L D Q hv r x (out ++ [⟨lineOf L a, gs⟩]) (fun y hy => hl y (List.mem_cons_of_mem _ hy)) h3 (by simp; omega)
    refine ⟨⟨lineOf L a, gs⟩ :: rs, ?_, by simp [h2, h5]⟩
    rw [parseR_ok L D Q a out [] hlt hst (by omega) gs x (by rw [h1]; rfl), h4]
    simp
theorem parse_fmt (D Q : UInt8) (hv : validB D Q = true) (ls : List (List Str)) (hl : ∀ l ∈ ls, 1 ≤ l.length ∧ l.length ≤ 12) (hn : ls.length ≤ 400) (ht : (textR D Q ls).length ≤ 65536) :
    fmtM D Q ls = (textR D Q ls, 0) ∧ ∃ rs, parseM D Q (textR D Q ls) = (rs, []) ∧ rs.map (fun r => r.fields.map Fld.text) = ls := by
  refine ⟨?_, ?_⟩
  · unfold fmtM
    rw [if_pos hv, if_neg (by omega), fmtGo_ok D Q ls [] hl (by simpa using ht)]
    rfl
  · unfold parseM
    rw [if_pos hv, if_neg (by omega)]
    obtain ⟨rs, h1, h2⟩ := parse_text (textR D Q ls) D Q hv ls 0 [] hl rfl (by simpa using hn)
    exact ⟨rs, by rw [h1]; simp, h2⟩
theorem esc_len (Q : UInt8) (q : Bool) : ∀ s, (escF Q q s).length ≤ 2 * s.length
  | [] => Nat.le_refl _
  | c :: s => by
    rw [escF_cons]
    have := esc_len Q q s
    split <;> simp <;> omega
theorem row_len (D Q : UInt8) (only : Bool) (m : Nat) : ∀ (l : List Str) (k : Nat), (∀ s ∈ l, s.length ≤ m) → (rowF D Q only k l).length ≤ (2 * m + 3) * l.length
  | [], k, _ => by simp [rowF]
  | s :: l, k, h => by
    have ih := row_len D Q only m l (k + 1) (fun x hx => h x (List.mem_cons_of_mem _ hx))
    have h1 := sep_len D k
    have h2 := mark_len Q (needB D Q s (k == 0) only)
    have h3 := esc_len Q (needB D Q s (k == 0) only) s
    have h4 := h s (by simp)
    have : (2 * m + 3) * (s :: l).length = (2 * m + 3) * l.length + (2 * m + 3) := by simp [Nat.mul_add]
    rw [this, rowF, fieldF]
    simp only [List.length_append]
    omega
theorem text_len (D Q : UInt8) : ∀ (ls : List (List Str)), (∀ l ∈ ls, l.length ≤ 5 ∧ ∀ s ∈ l, s.length ≤ 6) → (textR D Q ls).length ≤ 76 * ls.length
  | [], _ => by simp [textR]
  | l :: r, h => by
    have ih := text_len D Q r (fun x hx => h x (List.mem_cons_of_mem _ hx))
    have h0 := h l (by simp)
    have h1 := row_len D Q (l.length == 1) 6 l 0 h0.2
    have h2 := h0.1
    rw [textR]
    simp only [List.length_append, List.length_cons]
    omega
end Go.Proofs.YtcpkefjijinhiaaDoor
