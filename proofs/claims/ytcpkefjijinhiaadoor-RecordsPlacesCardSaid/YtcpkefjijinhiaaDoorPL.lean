/-
  Where the records that are parsed begin in the text: plain mathematics over the function parseM. No program, no conditions.
-/
import Derived.Test.YtcpkefjijinhiaaDoorPSpec
import Derived.Test.YtcpkefjijinhiaaDoorBegin
set_option linter.unusedVariables false
namespace Go.Proofs.YtcpkefjijinhiaaDoor
open Go Go.Proofs Go.RowKit Go.Lib

theorem begOf_no (L : Str) : ∀ (a j : Nat), begOf L a ≤ j → j < a → L[j]? ≠ some 10
  | 0, j, _, h => by omega
  | a + 1, j, h1, h2 => by
    unfold begOf at h1
    split at h1
    · omega
    · rename_i hn
      by_cases e : j = a
      · rw [e]; exact hn
      · exact begOf_no L a j h1 (by omega)
theorem eolN_first : ∀ (s : Str) (n : Nat), (∀ j, j < n → s[j]? ≠ some 10) → s[n]? = some 10 → eolN s = n
  | [], n, _, h => by simp at h
  | c :: s, 0, _, h => by
    obtain rfl : c = 10 := by simpa using h
    exact eolN_eq _ _ rfl
  | c :: s, n + 1, h1, h2 => by
    have hc : ¬ c.toNat = 10 := fun e => h1 0 (by omega) (by simpa using (toNat10 c).1 e)
    rw [eolN_ne _ _ hc, eolN_first s n (fun j hj => by have := h1 (j + 1) (by omega); simpa using this) (by simpa using h2)]
theorem begP_line (S : ByteArray) (L : Str) (hL : S.data.toList = L) : ∀ a, a ≤ L.length → begP S (lineOf L a - 1) = begOf L a
  | 0, _ => by rw [lineOf_zero]; rfl
  | a + 1, h => by
    have ih := begP_line S L hL a (by omega)
    have hp : 1 ≤ lineOf L a := by unfold lineOf; omega
    rw [lineOf_step L a (by omega), begOf_step L a (by omega)]
    by_cases e : L[a]'(by omega) = 10
    · rw [if_pos e, if_pos e, show lineOf L a + 1 - 1 = (lineOf L a - 1) + 1 by omega]
      unfold begP
      rw [ih, hL]
      have hb := begOf_le L a
      have := eolN_first (L.drop (begOf L a)) (a - begOf L a) (fun j hj => by rw [List.getElem?_drop]; exact begOf_no L a _ (by omega) (by omega))
        (by rw [List.getElem?_drop, show begOf L a + (a - begOf L a) = a by omega, List.getElem?_eq_getElem (by omega), e])
      omega
    · rw [if_neg e, if_neg e, Nat.add_zero]
      exact ih
/-- A record's place: where its line begins; its first field is there; its columns count from 1 on. -/
def Placed (L : Str) (Q : UInt8) (r : Rec) : Prop :=
  ∃ (a : Nat) (f : Fld) (gs : List Fld), a < L.length ∧ r.line = (lineOf L a : Int) ∧ begOf L a = a ∧ r.fields = f :: gs ∧ f.col = 1 ∧ (f.quoted = true → L[a]? = some Q) ∧
    (f.quoted = false → (L.drop a).take f.text.length = f.text ∧ a + f.text.length ≤ L.length) ∧ ∀ g ∈ gs, 1 ≤ g.col ∧ g.col ≤ (L.length : Int) + 1
theorem colP_in (L : Str) (a : Nat) (h : a ≤ L.length) : 1 ≤ colP L a ∧ colP L a ≤ (L.length : Int) + 1 := by
  have := begOf_le L a
  unfold colP
  omega
theorem bef_pre (c : UInt8) : ∀ s, bef c s <+: s
  | [] => List.prefix_refl _
  | x :: r => by
    unfold bef
    split
    · exact List.nil_prefix
    · exact (List.prefix_cons_inj x).2 (bef_pre c r)
theorem lineS_pre : ∀ s, lineS s <+: s
  | [] => List.prefix_refl _
  | x :: r => by
    unfold lineS
    split
    · exact List.nil_prefix
    · exact (List.prefix_cons_inj x).2 (lineS_pre r)
theorem field_col (L : Str) (D Q : UInt8) (a : Nat) (f : Fld) (x : Nat) (h : fieldP L D Q a = .ok f x) (ha : a ≤ L.length) :
    f.col = colP L a ∧ (f.quoted = true → L[a]? = some Q) ∧ (f.quoted = false → (L.drop a).take f.text.length = f.text ∧ a + f.text.length ≤ L.length) := by
  unfold fieldP at h
  split at h
  · rename_i hq
    rw [List.head?_drop] at hq
    unfold quotP at h
    split at h
    · simp at h
    · split at h
      · injection h with h _
        subst h
        exact ⟨rfl, fun _ => hq, fun e => by simp at e⟩
      · simp at h
  · unfold plainP at h
    split at h
    · simp at h
    · injection h with h _
      subst h
      have hp := (bef_pre D (lineS (L.drop a))).trans (lineS_pre (L.drop a))
      have hl := hp.length_le
      rw [List.length_drop] at hl
      refine ⟨rfl, fun e => by simp at e, fun _ => ⟨?_, by show a + (bef D (lineS (L.drop a))).length ≤ _; omega⟩⟩
      exact (List.prefix_iff_eq_take.1 hp).symm
theorem rec_cols (L : Str) (D Q : UInt8) : ∀ (n : Nat) (fs : List Fld) (a : Nat) (gs : List Fld) (x : Nat), a ≤ L.length → recP L D Q n fs a = .ok gs x →
    ∃ f hs y, gs = fs ++ f :: hs ∧ fieldP L D Q a = .ok f y ∧ (∀ g ∈ hs, 1 ≤ g.col ∧ g.col ≤ (L.length : Int) + 1) ∧ (x < L.length → begOf L x = x)
  | 0, fs, a, gs, x, _, h => by simp [recP] at h
  | n + 1, fs, a, gs, x, ha, h => by
    unfold recP at h
    cases hf : fieldP L D Q a with
    | bad p y => rw [hf] at h; simp at h
    | ok f y =>
      rw [hf] at h
      simp only at h
      have hy := field_ok L D Q a f y hf ha
      split at h
      · injection h with h1 h2
        subst h1 h2
        exact ⟨f, [], y, rfl, rfl, fun g hg => by simp at hg, begOf_nxt L y⟩
      · rename_i he
        have hlt := end_lt L y (by simpa using he)
        obtain ⟨f', hs, y', h1, h2, h3, h4⟩ := rec_cols L D Q n (fs ++ [f]) (y + 1) gs x (by omega) h
        refine ⟨f, f' :: hs, y, by rw [h1]; simp, rfl, fun g hg => ?_, h4⟩
        rcases List.mem_cons.1 hg with rfl | hg
        · have := (field_col L D Q (y + 1) _ y' h2 (by omega)).1
          rw [this]
          exact colP_in L (y + 1) (by omega)
        · exact h3 g hg
theorem rec_next (L : Str) (D Q : UInt8) : ∀ (n : Nat) (fs : List Fld) (a : Nat) (p : Prob) (x : Nat), recP L D Q n fs a = .bad p x → x < L.length → begOf L x = x
  | 0, fs, a, p, x, h, hx => by
    unfold recP at h
    injection h with _ h
    subst h
    exact begOf_nxt L a hx
  | n + 1, fs, a, p, x, h, hx => by
    unfold recP at h
    cases hf : fieldP L D Q a with
    | bad p' y =>
      rw [hf] at h
      injection h with _ h
      subst h
      unfold fieldP at hf
      split at hf
      · unfold quotP at hf
        split at hf
        · injection hf with _ hf; omega
        · split at hf
          · simp at hf
          · injection hf with _ hf
            subst hf
            exact begOf_nxt L _ hx
      · unfold plainP at hf
        split at hf
        · injection hf with _ hf
          subst hf
          exact begOf_nxt L _ hx
        · simp at hf
    | ok f y =>
      rw [hf] at h
      simp only at h
      split at h
      · simp at h
      · exact rec_next L D Q n _ _ p x h hx
theorem parse_placed (L : Str) (D Q : UInt8) : ∀ (n a : Nat) (out : List Rec) (bad : List Prob), (a < L.length → begOf L a = a) → (∀ r ∈ out, Placed L Q r) → ∀ r ∈ (parseP L D Q n a out bad).1, Placed L Q r
  | 0, a, out, bad, _, h => h
  | n + 1, a, out, bad, ha, h => by
    unfold parseP
    split
    · exact h
    · rename_i hlt
      have hlt' : a < L.length := by omega
      split
      · exact parse_placed L D Q n _ out bad (begOf_nxt L a) h
      · split
        · exact h
        · cases hr : recP L D Q 12 [] a with
          | bad p x => exact parse_placed L D Q n x out _ (rec_next L D Q 12 [] a p x hr) h
          | ok fs x =>
            obtain ⟨f, hs, y, h1, h2, h3, h4⟩ := rec_cols L D Q 12 [] a fs x (by omega) hr
            refine parse_placed L D Q n x _ bad h4 fun r hr' => ?_
            rcases List.mem_append.1 hr' with hr' | hr'
            · exact h r hr'
            · obtain rfl : r = ⟨lineOf L a, fs⟩ := by simpa using hr'
              obtain ⟨e1, e2, e3⟩ := field_col L D Q a f y h2 (by omega)
              refine ⟨a, f, hs, hlt', rfl, ha hlt', by rw [h1]; rfl, ?_, e2, e3, h3⟩
              rw [e1]
              unfold colP
              rw [ha hlt']
              omega
theorem parseM_placed (D Q : UInt8) (L : Str) : ∀ r ∈ (parseM D Q L).1, Placed L Q r := by
  unfold parseM
  split
  · split
    · intro r hr; simp at hr
    · exact parse_placed L D Q _ 0 [] [] (fun _ => rfl) (fun r hr => by simp at hr)
  · intro r hr; simp at hr
end Go.Proofs.YtcpkefjijinhiaaDoor
