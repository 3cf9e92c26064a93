/-
  Natural order of strings as a function, and that it is a total order: plain mathematics. No program, no conditions.
-/
import Derived.Lib.Bytealg
set_option linter.unusedVariables false
namespace Go.Proofs.YtldnbneblpebiaaGreatDoor
open Go Go.Lib

abbrev Str := List UInt8
/-- A comparison that orders. -/
structure Tot {α : Type} (c : α → α → Int) : Prop where
  rng : ∀ a b, c a b = -1 ∨ c a b = 0 ∨ c a b = 1
  swap : ∀ a b, c b a = - c a b
  trans : ∀ a b d, c a b ≤ 0 → c b d ≤ 0 → c a d ≤ 0
theorem Tot.self {α : Type} {c : α → α → Int} (h : Tot c) (a : α) : c a a = 0 := by
  have := h.swap a a
  omega
theorem Tot.zero_left {α : Type} {c : α → α → Int} (h : Tot c) {a b : α} (d : α) (e : c a b = 0) : c a d = c b d := by
  have e' := h.swap a b
  have r1 := h.rng a d
  have r2 := h.rng b d
  have s1 := h.swap a d
  have s2 := h.swap b d
  have t1 := h.trans a b d (by omega)
  have t2 := h.trans b a d (by omega)
  have t3 := fun x => h.trans d a b x (by omega)
  have t4 := fun x => h.trans d b a x (by omega)
  rcases r1 with r1 | r1 | r1 <;> rcases r2 with r2 | r2 | r2 <;> first | omega | (have := t1 (by omega); omega) | (have := t2 (by omega); omega) | (have := t3 (by omega); omega) | (have := t4 (by omega); omega)
def orC {α : Type} (c1 c2 : α → α → Int) (a b : α) : Int := if c1 a b = 0 then c2 a b else c1 a b
theorem Tot.or {α : Type} {c1 c2 : α → α → Int} (h1 : Tot c1) (h2 : Tot c2) : Tot (orC c1 c2) := by
  refine ⟨fun a b => ?_, fun a b => ?_, fun a b d => ?_⟩
  · unfold orC
    split
    · exact h2.rng a b
    · exact h1.rng a b
  · unfold orC
    have := h1.swap a b
    by_cases e : c1 a b = 0
    · rw [if_pos e, if_pos (by omega)]; exact h2.swap a b
    · rw [if_neg e, if_neg (by omega)]; exact this
  · unfold orC
    have s1 := h1.swap a b
    by_cases e : c1 a b = 0
    · have z := h1.zero_left d e
      rw [if_pos e, z]
      split
      · exact h2.trans a b d
      · exact fun _ x => x
    · rw [if_neg e]
      by_cases e2 : c1 b d = 0
      · have z := h1.zero_left a e2
        have s2 := h1.swap a d
        intro x _
        rw [if_neg (by omega)]
        omega
      · rw [if_neg e2]
        intro x y
        have t := h1.trans a b d x y
        have s3 := h1.swap a d
        have s4 := h1.swap b d
        by_cases e3 : c1 a d = 0
        · have := h1.zero_left b e3
          omega
        · rw [if_neg e3]; exact t
theorem Tot.on {α β : Type} {c : α → α → Int} (h : Tot c) (f : β → α) : Tot (fun a b => c (f a) (f b)) :=
  ⟨fun _ _ => h.rng _ _, fun _ _ => h.swap _ _, fun _ _ _ => h.trans _ _ _⟩
def lexC {α : Type} (c : α → α → Int) : List α → List α → Int
  | [], [] => 0
  | [], _ :: _ => -1
  | _ :: _, [] => 1
  | a :: as, b :: bs => if c a b = 0 then lexC c as bs else c a b
theorem lexC_rng {α : Type} {c : α → α → Int} (h : Tot c) : ∀ a b, lexC c a b = -1 ∨ lexC c a b = 0 ∨ lexC c a b = 1
  | [], [] => by simp [lexC]
  | [], _ :: _ => by simp [lexC]
  | _ :: _, [] => by simp [lexC]
  | a :: as, b :: bs => by
    unfold lexC
    split
    · exact lexC_rng h as bs
    · exact h.rng a b
theorem lexC_swap {α : Type} {c : α → α → Int} (h : Tot c) : ∀ a b, lexC c b a = - lexC c a b
  | [], [] => by simp [lexC]
  | [], _ :: _ => by simp [lexC]
  | _ :: _, [] => by simp [lexC]
  | a :: as, b :: bs => by
    have := h.swap a b
    have ih := lexC_swap h as bs
    unfold lexC
    by_cases e : c a b = 0
    · rw [if_pos e, if_pos (by omega)]; exact ih
    · rw [if_neg e, if_neg (by omega)]; exact this
theorem lexC_trans {α : Type} {c : α → α → Int} (h : Tot c) : ∀ a b d, lexC c a b ≤ 0 → lexC c b d ≤ 0 → lexC c a d ≤ 0
  | [], _, [], _, _ => by simp [lexC]
  | [], _, _ :: _, _, _ => by simp [lexC]
  | _ :: _, [], _, x, _ => by simp [lexC] at x
  | _ :: _, _ :: _, [], _, y => by simp [lexC] at y
  | a :: as, b :: bs, d :: ds, x, y => by
    have ih := lexC_trans h as bs ds
    unfold lexC at x y ⊢
    have s1 := h.swap a b
    have s2 := h.swap b d
    have s3 := h.swap a d
    by_cases e : c a b = 0
    · have z := h.zero_left d e
      rw [if_pos e] at x
      rw [z]
      split at y
      · rename_i e2
        rw [if_pos e2]; exact ih x y
      · rename_i e2
        rw [if_neg e2]; exact y
    · rw [if_neg e] at x
      by_cases e2 : c b d = 0
      · have z := h.zero_left a e2
        rw [if_neg (by omega)]; omega
      · rw [if_neg e2] at y
        have t := h.trans a b d x y
        by_cases e3 : c a d = 0
        · have := h.zero_left b e3
          omega
        · rw [if_neg e3]; exact t
theorem Tot.lex {α : Type} {c : α → α → Int} (h : Tot c) : Tot (lexC c) := ⟨lexC_rng h, lexC_swap h, lexC_trans h⟩
def cmpI (a b : Int) : Int := if a < b then -1 else if b < a then 1 else 0
theorem cmpI_tot : Tot cmpI := by
  refine ⟨fun a b => ?_, fun a b => ?_, fun a b d => ?_⟩ <;> unfold cmpI <;> repeat' split
  all_goals first | omega | simp | skip
  all_goals first | omega | skip
def cmpB (a b : UInt8) : Int := cmpI a.toNat b.toNat
theorem compareBytes_lex : ∀ a b, compareBytes a b = lexC cmpB a b
  | [], [] => rfl
  | [], _ :: _ => rfl
  | _ :: _, [] => rfl
  | a :: as, b :: bs => by
    unfold compareBytes lexC cmpB cmpI
    simp only [UInt8.lt_iff_toNat_lt]
    by_cases h1 : a.toNat < b.toNat
    · rw [if_pos h1]
      rw [if_neg (by rw [if_pos (by omega)]; decide), if_pos (by omega)]
    · rw [if_neg h1]
      by_cases h2 : b.toNat < a.toNat
      · rw [if_pos h2, if_neg (by rw [if_neg (by omega), if_pos (by omega)]; decide), if_neg (by omega), if_pos (by omega)]
      · rw [if_neg h2, if_pos (by rw [if_neg (by omega), if_neg (by omega)])]
        exact compareBytes_lex as bs
theorem bytes_tot : Tot compareBytes := by
  have : compareBytes = lexC cmpB := by funext a b; exact compareBytes_lex a b
  rw [this]
  exact (cmpI_tot.on fun c : UInt8 => (c.toNat : Int)).lex
theorem bytes_eq : ∀ a b : Str, compareBytes a b = 0 → a = b
  | [], [], _ => rfl
  | [], _ :: _, h => by simp [compareBytes] at h
  | _ :: _, [], h => by simp [compareBytes] at h
  | a :: as, b :: bs, h => by
    unfold compareBytes at h
    split at h
    · simp at h
    · split at h
      · simp at h
      · rename_i h1 h2
        rw [UInt8.lt_iff_toNat_lt] at h1 h2
        have : a = b := UInt8.toNat_inj.1 (by omega)
        rw [this, bytes_eq as bs h]

/-! ### elements -/
def dg (c : UInt8) : Bool := decide (48 ≤ c.toNat) && decide (c.toNat ≤ 57)
def runN (d : Bool) : Str → Nat
  | [] => 0
  | c :: r => if dg c = d then runN d r + 1 else 0
theorem runN_le (d : Bool) : ∀ s, runN d s ≤ s.length
  | [] => Nat.le_refl _
  | c :: r => by
    unfold runN
    have := runN_le d r
    split <;> simp <;> omega
/-- The length of the first element. -/
def elemN : Str → Nat
  | [] => 0
  | c :: r => runN (dg c) r + 1
theorem elemN_le (s : Str) : elemN s ≤ s.length := by
  cases s with
  | nil => exact Nat.le_refl _
  | cons c r =>
    have := runN_le (dg c) r
    simp [elemN]; omega
theorem elemN_pos (s : Str) (h : s ≠ []) : 1 ≤ elemN s := by
  cases s with
  | nil => exact absurd rfl h
  | cons c r => simp [elemN]
def elemsF : Nat → Str → List Str
  | 0, _ => []
  | n + 1, s => if s = [] then [] else s.take (elemN s) :: elemsF n (s.drop (elemN s))
theorem elemsF_fuel : ∀ (n m : Nat) (s : Str), s.length ≤ n → s.length ≤ m → elemsF n s = elemsF m s
  | 0, 0, s, _, _ => rfl
  | 0, m + 1, s, h, _ => by
    have : s = [] := List.eq_nil_of_length_eq_zero (by omega)
    subst this
    simp [elemsF]
  | n + 1, 0, s, _, h => by
    have : s = [] := List.eq_nil_of_length_eq_zero (by omega)
    subst this
    simp [elemsF]
  | n + 1, m + 1, s, h1, h2 => by
    unfold elemsF
    split
    · rfl
    · rename_i h
      have := elemN_pos s h
      rw [elemsF_fuel n m _ (by rw [List.length_drop]; omega) (by rw [List.length_drop]; omega)]
/-- The elements of a string. -/
def elems (s : Str) : List Str := elemsF s.length s
theorem elems_nil : elems [] = [] := rfl
theorem elems_cons (s : Str) (h : s ≠ []) : elems s = s.take (elemN s) :: elems (s.drop (elemN s)) := by
  have hp := elemN_pos s h
  have hl := List.length_pos_iff.2 h
  unfold elems
  rw [show s.length = (s.length - 1) + 1 by omega]
  conv => lhs; unfold elemsF
  rw [if_neg h, elemsF_fuel (s.length - 1) (s.drop (elemN s)).length _ (by rw [List.length_drop]; omega) (Nat.le_refl _)]
def numS : Str → Bool
  | [] => false
  | c :: _ => dg c
def bareS (s : Str) : Str := s.dropWhile (fun c => c == 48)
def clsS (s : Str) : Int := if numS s then 0 else 1
def lenS (s : Str) : Int := if numS s then ((bareS s).length : Int) else 0
def keyS (s : Str) : Str := if numS s then bareS s else s
/-- Two elements compared. -/
def cmpE : Str → Str → Int := orC (fun a b => cmpI (clsS a) (clsS b)) (orC (fun a b => cmpI (lenS a) (lenS b)) (fun a b => compareBytes (keyS a) (keyS b)))
theorem cmpE_tot : Tot cmpE := (cmpI_tot.on clsS).or ((cmpI_tot.on lenS).or (bytes_tot.on keyS))
theorem cmpE_nums (a b : Str) (ha : numS a = true) (hb : numS b = true) : cmpE a b = if cmpI ((bareS a).length : Int) ((bareS b).length : Int) = 0 then compareBytes (bareS a) (bareS b) else cmpI ((bareS a).length : Int) ((bareS b).length : Int) := by
  unfold cmpE orC clsS lenS keyS
  simp [ha, hb, cmpI]
theorem cmpE_num (a b : Str) (ha : numS a = true) (hb : numS b = false) : cmpE a b = -1 := by
  unfold cmpE orC clsS
  simp [ha, hb, cmpI]
theorem cmpE_other (a b : Str) (ha : numS a = false) (hb : numS b = true) : cmpE a b = 1 := by
  unfold cmpE orC clsS
  simp [ha, hb, cmpI]
theorem cmpE_texts (a b : Str) (ha : numS a = false) (hb : numS b = false) : cmpE a b = compareBytes a b := by
  unfold cmpE orC clsS lenS keyS
  simp [ha, hb, cmpI]
/-- Natural order. -/
def cmpM : Str → Str → Int := orC (fun a b => lexC cmpE (elems a) (elems b)) compareBytes
theorem cmpM_tot : Tot cmpM := (cmpE_tot.lex.on elems).or bytes_tot
theorem cmpM_zero (a b : Str) : cmpM a b = 0 ↔ a = b := by
  constructor
  · intro h
    unfold cmpM orC at h
    split at h
    · exact bytes_eq a b h
    · rename_i h'; exact absurd h h'
  · rintro rfl
    exact cmpM_tot.self a
end Go.Proofs.YtldnbneblpebiaaGreatDoor
