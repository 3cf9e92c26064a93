/-
  Travel tables as data: the first error of one, its records, its entries by buildings. No program.
  The shortest ways, as mathematics: what Close of the program and that of the specification do to a table, and that the results are equal. No program.
-/
import Derived.Test.YtocmbifljkcmeaaDoorBB
import Derived.Test.YtocmbifljkcmeaaDoorBC
set_option linter.unusedVariables false
namespace Go.Proofs.YtocmbifljkcmeaaDoor
open Go Go.Proofs Go.RowKit Go.Lib

/-- A travel table: buildings, rows of slots. -/
abbrev TabD := List Str × List (List Int)
def at2 (R : List (List Int)) (i k : Nat) : Int := (R.getD i []).getD k 0
/-- The first error of the buildings from the k-th on. -/
def bldE (l : List Str) : Nat → Nat → Int
  | 0, _ => 0
  | f + 1, k => if S3.validC (l.getD k []) = false then 10 else if l.getD k [] ∈ l.take k then 11 else bldE l f (k + 1)
def bldM (l : List Str) : Int := bldE l l.length 0
theorem bldE_step (l : List Str) (k : Nat) (h : k < l.length) : bldE l (l.length - k) k = if S3.validC (l.getD k []) = false then 10 else if l.getD k [] ∈ l.take k then 11 else bldE l (l.length - (k + 1)) (k + 1) := by
  rw [show l.length - k = (l.length - (k + 1)) + 1 by omega]
  rfl
theorem bldE_end (l : List Str) (k : Nat) (h : l.length ≤ k) : bldE l (l.length - k) k = 0 := by
  rw [show l.length - k = 0 by omega]
  rfl
def sqrB (R : List (List Int)) (n : Nat) : Bool := decide (R.length = n) && R.all fun r => decide (r.length = n)
theorem sqrB_len {R : List (List Int)} {n : Nat} (h : sqrB R n = true) : R.length = n := by
  unfold sqrB at h
  simp only [Bool.and_eq_true, decide_eq_true_eq] at h
  exact h.1
theorem sqrB_row {R : List (List Int)} {n : Nat} (h : sqrB R n = true) {i : Nat} (hi : i < R.length) : R[i].length = n := by
  unfold sqrB at h
  simp only [Bool.and_eq_true, decide_eq_true_eq, List.all_eq_true] at h
  exact h.2 _ (List.getElem_mem hi)
def okAt (R : List (List Int)) (i k : Nat) : Bool := !(decide (i = k) && decide (at2 R i k ≠ 0)) && (decide (-1 ≤ at2 R i k) && (decide (at2 R i k ≤ 24) && decide (at2 R i k = at2 R k i)))
theorem okAt_iff (R : List (List Int)) (i k : Nat) : okAt R i k = true ↔ (i = k → at2 R i k = 0) ∧ -1 ≤ at2 R i k ∧ at2 R i k ≤ 24 ∧ at2 R i k = at2 R k i := by
  unfold okAt
  simp only [Bool.and_eq_true, Bool.not_eq_true', Bool.and_eq_false_imp, decide_eq_true_eq, decide_eq_false_iff_not, Decidable.not_not]
/-- All entries are right. -/
def entsOk (R : List (List Int)) (n : Nat) : Bool := (List.range n).all fun i => (List.range n).all fun k => okAt R i k
theorem entsOk_iff (R : List (List Int)) (n : Nat) : entsOk R n = true ↔ ∀ i < n, ∀ k < n, okAt R i k = true := by
  unfold entsOk
  simp only [List.all_eq_true, List.mem_range]
/-- The first error of a table. -/
def validT (t : TabD) : Int := if 8 < t.1.length then 2 else if bldM t.1 ≠ 0 then bldM t.1 else if sqrB t.2 t.1.length = false then 1 else if entsOk t.2 t.1.length = false then 3 else 0
theorem validT_zero {t : TabD} (h : validT t = 0) : t.1.length ≤ 8 ∧ sqrB t.2 t.1.length = true ∧ entsOk t.2 t.1.length = true := by
  unfold validT at h
  by_cases h1 : 8 < t.1.length
  · rw [if_pos h1] at h; simp at h
  · rw [if_neg h1] at h
    by_cases h2 : bldM t.1 ≠ 0
    · rw [if_pos h2] at h; exact absurd h h2
    · rw [if_neg h2] at h
      by_cases h3 : sqrB t.2 t.1.length = false
      · rw [if_pos h3] at h; simp at h
      · rw [if_neg h3] at h
        by_cases h4 : entsOk t.2 t.1.length = false
        · rw [if_pos h4] at h; simp at h
        · exact ⟨by omega, by simpa using h3, by simpa using h4⟩
/-- The record of a way. -/
def wayS (t : TabD) (i k : Nat) : List Str := [t.1.getD i [], t.1.getD k [], decDigits (at2 t.2 i k).toNat]
def knows (t : TabD) (i k : Nat) : Bool := decide (i < k) && decide (at2 t.2 i k ≠ -1)
def waysTo (t : TabD) (i : Nat) : Nat → List (List Str)
  | 0 => []
  | k + 1 => waysTo t i k ++ (if knows t i k = true then [wayS t i k] else [])
def waysOf (t : TabD) (n : Nat) : Nat → List (List Str)
  | 0 => []
  | i + 1 => waysOf t n i ++ waysTo t i n
theorem waysTo_low (t : TabD) (i : Nat) : ∀ k, k ≤ i + 1 → waysTo t i k = []
  | 0, _ => rfl
  | k + 1, h => by
    unfold waysTo
    rw [waysTo_low t i k (by omega), if_neg (by unfold knows; rw [decide_eq_false (by omega)]; simp)]
    rfl
theorem waysTo_len (t : TabD) (i : Nat) : ∀ k, (waysTo t i k).length ≤ k
  | 0 => Nat.le_refl _
  | k + 1 => by
    unfold waysTo
    have := waysTo_len t i k
    rw [List.length_append]
    split <;> simp <;> omega
theorem waysOf_len (t : TabD) (n : Nat) : ∀ i, (waysOf t n i).length ≤ i * n
  | 0 => Nat.zero_le _
  | i + 1 => by
    unfold waysOf
    have h1 := waysOf_len t n i
    have h2 := waysTo_len t i n
    rw [List.length_append, Nat.succ_mul]
    omega
/-- What Write gives. -/
def writeT (t : TabD) : List (List Str) × Int := if validT t ≠ 0 then ([], validT t) else (waysOf t t.1.length t.1.length, 0)
/-- The place of a string from the k-th on. -/
def plcN : List Str → Str → Nat → Int
  | [], _, _ => -1
  | x :: r, s, k => if x = s then (k : Int) else plcN r s (k + 1)
def plc (l : List Str) (s : Str) : Int := plcN l s 0
theorem plcN_step (l : List Str) (s : Str) (k : Nat) (h : k < l.length) : plcN (l.drop k) s k = if l[k] = s then (k : Int) else plcN (l.drop (k + 1)) s (k + 1) := by
  rw [List.drop_eq_getElem_cons h]
  rfl
theorem plcN_end (l : List Str) (s : Str) (k : Nat) (h : l.length ≤ k) : plcN (l.drop k) s k = -1 := by
  rw [List.drop_eq_nil_of_le h]
  rfl
theorem plcN_spec : ∀ (l : List Str) (s : Str) (k : Nat), (plcN l s k = -1 ∧ s ∉ l) ∨ (∃ j : Nat, plcN l s k = ((k + j : Nat) : Int) ∧ l[j]? = some s ∧ s ∉ l.take j)
  | [], s, k => .inl ⟨rfl, by simp⟩
  | x :: r, s, k => by
    unfold plcN
    by_cases hx : x = s
    · rw [if_pos hx]
      exact .inr ⟨0, rfl, by simp [hx], by simp⟩
    · rw [if_neg hx]
      rcases plcN_spec r s (k + 1) with ⟨h1, h2⟩ | ⟨j, h1, h2, h3⟩
      · exact .inl ⟨h1, by simp [h2, Ne.symm hx]⟩
      · exact .inr ⟨j + 1, by rw [h1]; omega, by simpa using h2, by simp [h3, Ne.symm hx]⟩
theorem plc_spec (l : List Str) (s : Str) : (plc l s = -1 ∧ s ∉ l) ∨ (∃ j : Nat, plc l s = (j : Int) ∧ j < l.length ∧ l[j]? = some s ∧ s ∉ l.take j) := by
  rcases plcN_spec l s 0 with h | ⟨j, h1, h2, h3⟩
  · exact .inl h
  · exact .inr ⟨j, by rw [plc, h1]; omega, (List.getElem?_eq_some_iff.1 h2).1, h2, h3⟩
theorem plc_mem (l : List Str) (s : Str) : decide (0 ≤ plc l s) = decide (s ∈ l) := by
  rcases plc_spec l s with ⟨h1, h2⟩ | ⟨j, h1, hj, h2, h3⟩
  · rw [h1, decide_eq_false h2]; rfl
  · rw [h1, decide_eq_true (List.mem_of_getElem? h2), decide_eq_true (by omega)]
theorem plc_lt (l : List Str) (s : Str) : -1 ≤ plc l s ∧ (plc l s < l.length ∨ plc l s = -1) := by
  rcases plc_spec l s with ⟨h1, h2⟩ | ⟨j, h1, hj, h2, h3⟩
  · omega
  · omega
/-- An earlier string is equal. -/
theorem plc_early (l : List Str) (k : Nat) (h : k < l.length) : decide (plc l l[k] < (k : Int)) = decide (l[k] ∈ l.take k) := by
  rcases plc_spec l l[k] with ⟨h1, h2⟩ | ⟨j, h1, hj, h2, h3⟩
  · exact absurd (List.getElem_mem h) h2
  · rw [h1, Bool.eq_iff_iff, decide_eq_true_eq, decide_eq_true_eq]
    constructor
    · intro hlt
      have : j < k := by omega
      rw [List.mem_iff_getElem?]
      exact ⟨j, by rw [List.getElem?_take_of_lt this]; exact h2⟩
    · intro hm
      by_cases hjk : j < k
      · omega
      · exact absurd (List.take_subset_take_left l (by omega : k ≤ j) hm) h3
/-- What Between gives. -/
def betwM (t : TabD) (a b : Str) : Int :=
  if a = b ∨ plc t.1 a < 0 ∨ plc t.1 b < 0 ∨ (t.2.length : Int) ≤ plc t.1 a ∨ ((t.2.getD (plc t.1 a).toNat []).length : Int) ≤ plc t.1 b then 0
  else if at2 t.2 (plc t.1 a).toNat (plc t.1 b).toNat = -1 then 0 else at2 t.2 (plc t.1 a).toNat (plc t.1 b).toNat
end Go.Proofs.YtocmbifljkcmeaaDoor

set_option linter.unusedVariables false
namespace Go.Proofs.YtocmbifljkcmeaaDoor
open Go Go.Proofs Go.RowKit Go.Lib

abbrev Fun2 := Nat → Nat → Int
def upd (F : Fun2) (i k : Nat) (v : Int) : Fun2 := fun a b => if a = i ∧ b = k then v else F a b
def joinP (a b : Int) : Int := if a = -1 ∨ b = -1 then -1 else min (a + b) 24
def shortP (a b : Int) : Int := if a = -1 ∨ b = -1 then max a b else min a b
def stepP (F : Fun2) (o f t : Nat) : Fun2 := upd F f t (shortP (F f t) (joinP (F f o) (F o t)))
def stepR (F : Fun2) (o f t : Nat) : Fun2 := if 0 ≤ F f o ∧ 0 ≤ F o t ∧ (F f t < 0 ∨ F f o + F o t < F f t) then upd F f t (F f o + F o t) else F
section
variable (st : Fun2 → Nat → Nat → Nat → Fun2) (n : Nat)
def innF (F : Fun2) (o f : Nat) : Nat → Fun2
  | 0 => F
  | t + 1 => st (innF F o f t) o f t
def midF (F : Fun2) (o : Nat) : Nat → Fun2
  | 0 => F
  | f + 1 => innF st (midF F o f) o f n
def outF (F : Fun2) : Nat → Fun2
  | 0 => F
  | o + 1 => midF st n (outF F o) o n
end
def capF (F : Fun2) : Fun2 := fun i k => min (F i k) 24
theorem cap_ge {F : Fun2} (h : ∀ i k, -1 ≤ F i k) : ∀ i k, -1 ≤ capF F i k := fun i k => by unfold capF; have := h i k; omega
theorem stepR_ge {F : Fun2} (h : ∀ i k, -1 ≤ F i k) (o f t : Nat) : ∀ i k, -1 ≤ stepR F o f t i k := fun i k => by
  unfold stepR
  split
  · rename_i hc
    unfold upd
    split
    · omega
    · exact h i k
  · exact h i k
theorem cap_step {F : Fun2} (h : ∀ i k, -1 ≤ F i k) (o f t : Nat) : capF (stepR F o f t) = stepP (capF F) o f t := by
  funext i k
  have h1 := h f t
  have h2 := h f o
  have h3 := h o t
  unfold stepP stepR upd
  by_cases hik : i = f ∧ k = t
  · rw [if_pos hik]
    obtain ⟨rfl, rfl⟩ := hik
    unfold shortP joinP
    have e : capF (if 0 ≤ F i o ∧ 0 ≤ F o k ∧ (F i k < 0 ∨ F i o + F o k < F i k) then fun a b => if a = i ∧ b = k then F i o + F o k else F a b else F) i k = min (if 0 ≤ F i o ∧ 0 ≤ F o k ∧ (F i k < 0 ∨ F i o + F o k < F i k) then F i o + F o k else F i k) 24 := by
      unfold capF
      split
      · simp
      · rfl
    rw [e]
    have c1 : capF F i k = min (F i k) 24 := rfl
    have c2 : capF F i o = min (F i o) 24 := rfl
    have c3 : capF F o k = min (F o k) 24 := rfl
    rw [c1, c2, c3]
    repeat' split
    all_goals omega
  · rw [if_neg hik]
    unfold capF
    split
    · simp only []
      rw [if_neg hik]
    · rfl
theorem innF_ge {F : Fun2} (h : ∀ i k, -1 ≤ F i k) (o f : Nat) : ∀ t, ∀ i k, -1 ≤ innF stepR F o f t i k
  | 0 => h
  | t + 1 => stepR_ge (innF_ge h o f t) o f t
theorem midF_ge {F : Fun2} (h : ∀ i k, -1 ≤ F i k) (n o : Nat) : ∀ f, ∀ i k, -1 ≤ midF stepR n F o f i k
  | 0 => h
  | f + 1 => innF_ge (midF_ge h n o f) o f n
theorem outF_ge {F : Fun2} (h : ∀ i k, -1 ≤ F i k) (n : Nat) : ∀ o, ∀ i k, -1 ≤ outF stepR n F o i k
  | 0 => h
  | o + 1 => midF_ge (outF_ge h n o) n o n
theorem cap_inn {F : Fun2} (h : ∀ i k, -1 ≤ F i k) (o f : Nat) : ∀ t, capF (innF stepR F o f t) = innF stepP (capF F) o f t
  | 0 => rfl
  | t + 1 => by
    show capF (stepR (innF stepR F o f t) o f t) = stepP (innF stepP (capF F) o f t) o f t
    rw [cap_step (innF_ge h o f t), cap_inn h o f t]
theorem cap_mid {F : Fun2} (h : ∀ i k, -1 ≤ F i k) (n o : Nat) : ∀ f, capF (midF stepR n F o f) = midF stepP n (capF F) o f
  | 0 => rfl
  | f + 1 => by
    show capF (innF stepR (midF stepR n F o f) o f n) = innF stepP (midF stepP n (capF F) o f) o f n
    rw [cap_inn (midF_ge h n o f), cap_mid h n o f]
theorem cap_out {F : Fun2} (h : ∀ i k, -1 ≤ F i k) (n : Nat) : ∀ o, capF (outF stepR n F o) = outF stepP n (capF F) o
  | 0 => rfl
  | o + 1 => by
    show capF (midF stepR n (outF stepR n F o) o n) = midF stepP n (outF stepP n (capF F) o) o n
    rw [cap_mid (outF_ge h n o), cap_out h n o]
/-- How great the entries can get: while ways over o are looked at. -/
structure Bnd (X : Int) (o : Nat) (F : Fun2) : Prop where
  lo : ∀ i k, -1 ≤ F i k
  hi : ∀ i k, F i k ≤ 2 * X
  row : ∀ k, F o k ≤ X
  col : ∀ i, F i o ≤ X
  dg : ∀ i, F i i = 0
theorem Bnd.step {X : Int} {o : Nat} {F : Fun2} (h : Bnd X o F) (f t : Nat) : Bnd X o (stepR F o f t) := by
  have h1 := h.lo f t
  have h2 := h.lo f o
  have h3 := h.lo o t
  have r := h.row t
  have c := h.col f
  have d := h.dg o
  refine ⟨stepR_ge h.lo o f t, fun i k => ?_, fun k => ?_, fun i => ?_, fun i => ?_⟩
  · unfold stepR
    split
    · unfold upd
      split
      · omega
      · exact h.hi i k
    · exact h.hi i k
  · unfold stepR
    split
    · rename_i hc
      unfold upd
      split
      · rename_i he
        obtain ⟨rfl, rfl⟩ := he
        rw [d] at hc ⊢
        omega
      · exact h.row k
    · exact h.row k
  · unfold stepR
    split
    · rename_i hc
      unfold upd
      split
      · rename_i he
        obtain ⟨rfl, rfl⟩ := he
        rw [d] at hc ⊢
        omega
      · exact h.col i
    · exact h.col i
  · unfold stepR
    split
    · rename_i hc
      unfold upd
      split
      · rename_i he
        obtain ⟨rfl, he⟩ := he
        subst he
        have := h.dg i
        omega
      · exact h.dg i
    · exact h.dg i
theorem Bnd.inn {X : Int} {o : Nat} {F : Fun2} (h : Bnd X o F) (f : Nat) : ∀ t, Bnd X o (innF stepR F o f t)
  | 0 => h
  | t + 1 => (h.inn f t).step f t
theorem Bnd.mid {X : Int} {o : Nat} {F : Fun2} (h : Bnd X o F) (n : Nat) : ∀ f, Bnd X o (midF stepR n F o f)
  | 0 => h
  | f + 1 => (h.mid n f).inn f n
def capN : Nat → Int
  | 0 => 24
  | o + 1 => 2 * capN o
theorem capN_nn : ∀ o, 24 ≤ capN o
  | 0 => Int.le_refl _
  | o + 1 => by have := capN_nn o; unfold capN; omega
theorem bnd_first {X : Int} {F : Fun2} (h0 : ∀ i k, -1 ≤ F i k) (h1 : ∀ i k, F i k ≤ X) (hd : ∀ i, F i i = 0) (hX : 0 ≤ X) (o : Nat) : Bnd X o F :=
  ⟨h0, fun i k => by have := h1 i k; omega, fun k => h1 o k, fun i => h1 i o, hd⟩
theorem bnd_out {F : Fun2} (h0 : ∀ i k, -1 ≤ F i k) (h1 : ∀ i k, F i k ≤ 24) (hd : ∀ i, F i i = 0) (n : Nat) : ∀ o, Bnd (capN o) o (outF stepR n F o)
  | 0 => bnd_first h0 h1 hd (by decide) 0
  | o + 1 => by
    have h := (bnd_out h0 h1 hd n o).mid n n
    refine bnd_first h.lo (fun i k => ?_) h.dg ?_ (o + 1)
    · have := h.hi i k; exact this
    · have := capN_nn (o + 1); omega
theorem capN_le : ∀ o, o ≤ 8 → capN o ≤ 6144 := by
  intro o h
  match o, h with
  | 0, _ => decide
  | 1, _ => decide
  | 2, _ => decide
  | 3, _ => decide
  | 4, _ => decide
  | 5, _ => decide
  | 6, _ => decide
  | 7, _ => decide
  | 8, _ => decide
  | o + 9, h => omega
/-- The rows of a table as a function, without regard to what lies beyond. -/
def funT (R : List (List Int)) (n : Nat) : Fun2 := fun i k => if i < n ∧ k < n then at2 R i k else if i = k then 0 else -1
theorem funT_in {R : List (List Int)} {n i k : Nat} (hi : i < n) (hk : k < n) : funT R n i k = at2 R i k := by unfold funT; rw [if_pos ⟨hi, hk⟩]
theorem funT_ok {R : List (List Int)} {n : Nat} (h : entsOk R n = true) : (∀ i k, -1 ≤ funT R n i k) ∧ (∀ i k, funT R n i k ≤ 24) ∧ ∀ i, funT R n i i = 0 := by
  rw [entsOk_iff] at h
  refine ⟨fun i k => ?_, fun i k => ?_, fun i => ?_⟩
  · unfold funT
    split
    · rename_i hc
      exact ((okAt_iff R i k).1 (h i hc.1 k hc.2)).2.1
    · split <;> omega
  · unfold funT
    split
    · rename_i hc
      exact ((okAt_iff R i k).1 (h i hc.1 k hc.2)).2.2.1
    · split <;> omega
  · unfold funT
    split
    · rename_i hc
      exact ((okAt_iff R i i).1 (h i hc.1 i hc.2)).1 rfl
    · rw [if_pos rfl]
theorem cap_fun {R : List (List Int)} {n : Nat} (h : entsOk R n = true) : capF (funT R n) = funT R n := by
  funext i k
  have := (funT_ok h).2.1 i k
  unfold capF
  omega
/-- A function's table. -/
def tabF (F : Fun2) (n : Nat) : List (List Int) := (List.range n).map fun i => (List.range n).map fun k => F i k
/-- What Close gives. -/
def closeF (t : TabD) : Fun2 := outF stepP t.1.length (funT t.2 t.1.length) t.1.length
theorem close_same {t : TabD} (h : validT t = 0) : capF (outF stepR t.1.length (funT t.2 t.1.length) t.1.length) = closeF t := by
  obtain ⟨_, _, h3⟩ := validT_zero h
  rw [cap_out (funT_ok h3).1, cap_fun h3]
  rfl
end Go.Proofs.YtocmbifljkcmeaaDoor

