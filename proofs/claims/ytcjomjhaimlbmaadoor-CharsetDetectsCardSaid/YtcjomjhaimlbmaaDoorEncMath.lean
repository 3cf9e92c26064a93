/-
  Plain lemmas on the encoding of a text, without any program: which characters a text has, the bytes of characters up to 255, and what they are decoded to. No conditions.
-/
import Derived.Test.YtcjomjhaimlbmaaDoorRunes
import Derived.Shelf.GgClosure.StringsIndexFunc
import Derived.Lib.RuneCount
set_option linter.unusedVariables false
namespace Go.Proofs.YtcjomjhaimlbmaaDoor
open Go Go.Proofs Go.RowKit Go.Lib

/-- Is there a character above g? -/
def bigB (g : Nat) (l : List UInt8) : Bool := (runesL l).any fun r => decide (g < r)
theorem runesL_toks (p : Nat) (l : List UInt8) : (toks p l).map (·.rune) = runesL l := by
  have h := congrArg (List.map fun x => x.1) (toks_pos p 0 l)
  simp only [List.map_map, Function.comp_def] at h
  exact h
theorem runesL_step (l : List UInt8) (hne : l ≠ []) : runesL l = (decodeL l).1 :: runesL (l.drop (decodeL l).2) := by
  conv => lhs; unfold runesL
  rw [toks_step 0 l hne]
  simp only [List.map_cons]
  rw [runesL_toks]
theorem runesL_nil : runesL [] = [] := rfl

theorem drop_ne (l : List UInt8) (pos : Nat) (h : pos < l.length) : l.drop pos ≠ [] := by
  intro e
  have := congrArg List.length e
  simp at this
  omega
theorem idxFrom_any (g : Nat) (s : ByteArray) : ∀ (f pos : Nat), s.size - pos ≤ f → decide (0 ≤ Lib.idxFuncFrom (fun r => decide (g < r)) true s f pos) = bigB g (s.data.toList.drop pos)
  | 0, pos, h => by
    rw [List.drop_of_length_le (by rw [← Lib.size_eq]; omega)]
    rfl
  | f + 1, pos, h => by
    unfold Lib.idxFuncFrom
    by_cases hp : pos < s.size
    · have hw := Lib.width_pos s pos
      have hne := drop_ne s.data.toList pos (by rw [← Lib.size_eq]; exact hp)
      have hst := runesL_step _ hne
      rw [decodeL_drop, List.drop_drop] at hst
      rw [if_pos hp]
      unfold bigB
      rw [hst, List.any_cons]
      cases hb : decide (g < (Utf8.decode s pos).1) with
      | true => simp
      | false =>
        rw [if_neg (by decide), Bool.false_or]
        exact idxFrom_any g s f _ (by omega)
    · rw [if_neg hp, List.drop_of_length_le (by rw [← Lib.size_eq]; omega)]
      rfl
theorem idx_any (g : Nat) (s : ByteArray) : decide (0 ≤ Lib.idxFunc (fun r => decide (g < r)) true s) = bigB g s.data.toList := by
  have := idxFrom_any g s s.size 0 (by omega)
  rwa [List.drop_zero] at this
theorem bigB_all (g : Nat) (l : List UInt8) (h : bigB g l = false) : ∀ r ∈ runesL l, r ≤ g := by
  intro r hr
  unfold bigB at h
  have := List.any_eq_false.1 h r hr
  simpa using this
theorem bigB_max (l : List UInt8) : bigB 1114111 l = false := by
  unfold bigB
  rw [List.any_eq_false]
  intro r hr
  have := runesL_valid l r hr
  unfold ValidR at this
  simp
  omega

/-- A byte for each character. -/
def encB (l : List UInt8) : List UInt8 := (runesL l).map fun r => r.toUInt8
theorem encB_step (l : List UInt8) (hne : l ≠ []) : encB l = (decodeL l).1.toUInt8 :: encB (l.drop (decodeL l).2) := by
  unfold encB
  rw [runesL_step l hne]
  rfl
theorem encB_nil : encB [] = [] := rfl
theorem runesL_length (l : List UInt8) : (runesL l).length ≤ l.length := by
  refine toks_ind (C := fun _ l => (runesL l).length ≤ l.length) (fun p => by simp [runesL_nil]) (fun p l hne ih => ?_) l.length 0 l (Nat.le_refl _)
  have hw := decodeL_width l
  have hl : 0 < l.length := List.length_pos_iff.2 hne
  rw [runesL_step l hne]
  simp only [List.length_cons, List.length_drop] at ih ⊢
  omega
theorem encB_length (l : List UInt8) : (encB l).length ≤ l.length := by
  unfold encB
  rw [List.length_map]
  exact runesL_length l

/-- Bytes of characters up to the greatest are decoded to them. -/
theorem sings_enc (g : Nat) (hg : g ≤ 255) : ∀ (rs : List Nat) (p : Nat), (∀ r ∈ rs, r ≤ g) → textT (sings g p (rs.map fun r => r.toUInt8)) = rs.flatMap encN ∧ dmgT (sings g p (rs.map fun r => r.toUInt8)) = []
  | [], p, _ => ⟨rfl, rfl⟩
  | r :: rs, p, h => by
    have hr := h r (by simp)
    obtain ⟨h1, h2⟩ := sings_enc g hg rs (p + 1) (fun r hr => h r (by simp [hr]))
    have e : (r.toUInt8).toNat = r := u8_toNat_of r (by omega)
    have e1 : sings g p ((r :: rs).map fun r => r.toUInt8) = ⟨p, r, false, r.toUInt8⟩ :: sings g (p + 1) (rs.map fun r => r.toUInt8) := by
      simp only [List.map_cons, sings, e]
      rw [if_neg (by omega), decide_eq_false (by omega)]
    rw [e1]
    refine ⟨?_, ?_⟩
    · have : textT (⟨p, r, false, r.toUInt8⟩ :: sings g (p + 1) (rs.map fun r => r.toUInt8)) = encN r ++ textT (sings g (p + 1) (rs.map fun r => r.toUInt8)) := by simp [textT]
      rw [this, h1, List.flatMap_cons]
    · have : dmgT (⟨p, r, false, r.toUInt8⟩ :: sings g (p + 1) (rs.map fun r => r.toUInt8)) = dmgT (sings g (p + 1) (rs.map fun r => r.toUInt8)) := by simp [dmgT]
      rw [this, h2]

/-- The greatest character of an encoding. -/
def gOf (k : Int) : Nat := if k = 1 then 127 else if k = 2 then 255 else 1114111
def bytesE (k : Int) (l : List UInt8) : List UInt8 := if k = 3 then l else encB l
/-- The error of Encode. -/
def errE (k : Int) (l : List UInt8) : Int :=
  if k = 1 ∨ k = 2 ∨ k = 3 then (if properB l = true then (if bigB (gOf k) l = true then 5 else if 65536 < (bytesE k l).length then 2 else 0) else 4) else 6
/-- What Encode returns. -/
def resE (k : Int) (l : List UInt8) : List UInt8 := if errE k l = 0 then bytesE k l else []
theorem proper_valid (l : List UInt8) : validD l = properB l := by
  rw [Bool.eq_iff_iff, validD_textU]
  unfold properB
  simp
end Go.Proofs.YtcjomjhaimlbmaaDoor
