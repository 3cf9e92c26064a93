/-
  Two dots in a part of a list, and the codes of a range: plain mathematics. No program, no conditions.
-/
import Derived.Test.YtldnbneblpebiaaGreatDoorJoinM
import Derived.Lib.IndexLaws
set_option linter.unusedVariables false
namespace Go.Proofs.YtldnbneblpebiaaGreatDoor
open Go Go.Lib

/-- How often two dots occur, without overlaps. -/
def cntD : Str → Nat
  | [] => 0
  | [_] => 0
  | a :: b :: r => if a = 46 ∧ b = 46 then cntD r + 1 else cntD (b :: r)
theorem cntD_yes (r : Str) : cntD (46 :: 46 :: r) = cntD r + 1 := if_pos ⟨rfl, rfl⟩
theorem cntD_no {a b : UInt8} (h : ¬ (a = 46 ∧ b = 46)) (r : Str) : cntD (a :: b :: r) = cntD (b :: r) := if_neg h
theorem pre2 (a b : UInt8) (r : Str) : dots2.isPrefixOf (a :: b :: r) = decide (a = 46 ∧ b = 46) := by
  unfold dots2
  simp only [List.isPrefixOf, Bool.and_true]
  rw [Bool.eq_iff_iff]
  simp
  constructor
  · rintro ⟨h1, h2⟩; exact ⟨h1.symm, h2.symm⟩
  · rintro ⟨h1, h2⟩; exact ⟨h1.symm, h2.symm⟩
theorem index_cnt : ∀ (l : Str), 0 ≤ Lib.index l dots2 ↔ 0 < cntD l
  | [] => by simp [Lib.index, dots2, cntD]
  | [a] => by simp [Lib.index, dots2, cntD]
  | a :: b :: r => by
    have ih := index_cnt (b :: r)
    have hge := Lib.index_ge (b :: r) dots2
    unfold Lib.index
    rw [pre2]
    by_cases h : a = 46 ∧ b = 46
    · obtain ⟨rfl, rfl⟩ := h
      rw [cntD_yes]
      simp
    · rw [cntD_no h, decide_eq_false h, if_neg (by simp)]
      by_cases h1 : Lib.index (b :: r) dots2 = -1
      · rw [h1] at ih ⊢
        simpa using ih
      · rw [if_neg (by simpa using h1)]
        rw [← ih]
        omega
theorem contains_cnt (l : Str) : Lib.contains l dots2 = decide (0 < cntD l) := by
  unfold Lib.contains
  exact decide_eq_decide.2 (index_cnt l)
theorem occ2 (l : Str) (i : Nat) (a b : UInt8) (ha : l[i]? = some a) (hb : l[i + 1]? = some b) : Lib.occAt l dots2 i = decide (a = 46 ∧ b = 46) ∧ l.drop i = a :: b :: l.drop (i + 2) := by
  have hi : i < l.length := (List.getElem?_eq_some_iff.1 ha).1
  have hj : i + 1 < l.length := (List.getElem?_eq_some_iff.1 hb).1
  have e : l.drop i = a :: b :: l.drop (i + 2) := by
    rw [List.drop_eq_getElem_cons hi, List.drop_eq_getElem_cons hj]
    rw [List.getElem?_eq_getElem hi] at ha
    rw [List.getElem?_eq_getElem hj] at hb
    injection ha with ha
    injection hb with hb
    rw [ha, hb]
  refine ⟨?_, e⟩
  unfold Lib.occAt
  rw [e, pre2]
/-- What the reference's dots says of a part. -/
structure DotsAt (l : Str) (n : Int) (a : Int) : Prop where
  n : n = (cntD l : Int)
  no : cntD l = 0 → isP l = false
  yes : 0 < cntD l → isP l = true ∧ ∃ k : Nat, a = (k : Int) ∧ befP l = l.take k ∧ aftP l = l.drop (k + 2) ∧ k + 2 ≤ l.length ∧ Lib.contains (aftP l) dots2 = decide (1 < cntD l)
/-- Between two rounds of dots. -/
structure DotsIn (l : Str) (n : Nat) (a : Int) (i : Nat) : Prop where
  cnt : n + cntD (l.drop i) = cntD l
  zero : n = 0 → a = -1 ∧ Lib.NoOcc l dots2 i
  pos : 0 < n → ∃ k : Nat, a = (k : Int) ∧ Lib.index l dots2 = (k : Int) ∧ k + 2 ≤ l.length ∧ cntD l = cntD (l.drop (k + 2)) + 1
theorem DotsIn.start (l : Str) : DotsIn l 0 (-1) 0 := ⟨by simp, fun _ => ⟨rfl, Lib.NoOcc.zero _ _⟩, fun h => by omega⟩
theorem DotsIn.hit {l : Str} {n : Nat} {a : Int} {i : Nat} (h : DotsIn l n a i) (ha : l[i]? = some 46) (hb : l[i + 1]? = some 46) : DotsIn l (n + 1) (if n = 0 then (i : Int) else a) (i + 2) := by
  obtain ⟨ho, hd⟩ := occ2 l i 46 46 ha hb
  have hc := h.cnt
  rw [hd, cntD_yes] at hc
  have hj : i + 1 < l.length := (List.getElem?_eq_some_iff.1 hb).1
  refine ⟨by omega, fun h => by omega, fun _ => ?_⟩
  by_cases hn : n = 0
  · obtain ⟨_, hno⟩ := h.zero hn
    refine ⟨i, if_pos hn, Lib.index_hit hno (by omega) (by rw [ho]; simp), by omega, by omega⟩
  · obtain ⟨k, h1, h2, h3, h4⟩ := h.pos (by omega)
    exact ⟨k, by rw [if_neg hn]; exact h1, h2, h3, h4⟩
theorem DotsIn.miss {l : Str} {n : Nat} {a : Int} {i : Nat} (h : DotsIn l n a i) {x y : UInt8} (ha : l[i]? = some x) (hb : l[i + 1]? = some y) (hne : ¬ (x = 46 ∧ y = 46)) : DotsIn l n a (i + 1) := by
  obtain ⟨ho, hd⟩ := occ2 l i x y ha hb
  have hj : i + 1 < l.length := (List.getElem?_eq_some_iff.1 hb).1
  have e : l.drop (i + 1) = y :: l.drop (i + 2) := by
    rw [List.drop_eq_getElem_cons hj]
    rw [List.getElem?_eq_getElem hj] at hb
    injection hb with hb
    rw [hb]
  have hc := h.cnt
  rw [hd, cntD_no hne, ← e] at hc
  refine ⟨hc, fun hn => ?_, h.pos⟩
  obtain ⟨h1, h2⟩ := h.zero hn
  exact ⟨h1, h2.succ (by rw [ho]; simpa using hne)⟩
theorem DotsIn.done {l : Str} {n : Nat} {a : Int} {i : Nat} (h : DotsIn l n a i) (hi : l.length ≤ i + 1) : DotsAt l (n : Int) a := by
  have hz : cntD (l.drop i) = 0 := by
    have hl : (l.drop i).length ≤ 1 := by simp; omega
    match hm : l.drop i, hl with
    | [], _ => rfl
    | [x], _ => rfl
    | x :: y :: r, hl => simp at hl
  have hc := h.cnt
  rw [hz, Nat.add_zero] at hc
  refine ⟨by omega, fun h0 => ?_, fun h0 => ?_⟩
  · unfold isP Lib.cut
    rw [if_neg (by rw [index_cnt]; omega)]
  · obtain ⟨k, h1, h2, h3, h4⟩ := h.pos (by omega)
    have hcut : Lib.cut l dots2 = (l.take k, l.drop (k + 2), true) := by
      unfold Lib.cut
      rw [if_pos (by omega), h2]
      rfl
    refine ⟨by unfold isP; rw [hcut], k, h1, by unfold befP; rw [hcut], by unfold aftP; rw [hcut], h3, ?_⟩
    have : aftP l = l.drop (k + 2) := by unfold aftP; rw [hcut]
    rw [this, contains_cnt]
    exact decide_eq_decide.2 (by omega)

/-! ### the codes of a range are codes -/
theorem dec_mono2 : ∀ (k m : Nat), m ≤ k → (decDigits m).length ≤ (decDigits k).length := fun k => by
  induction k using Nat.strongRecOn with
  | ind k ih =>
    intro m hm
    by_cases hk : k < 10
    · rw [dec_small hk, dec_small (show m < 10 by omega)]
      simp
    · by_cases hm' : m < 10
      · rw [dec_small hm']
        have := dec_pos k
        simpa using this
      · obtain ⟨a, b, ha, hb, rfl⟩ : ∃ a b, 1 ≤ a ∧ b < 10 ∧ k = 10 * a + b := ⟨k / 10, k % 10, by omega, by omega, by omega⟩
        obtain ⟨c, d, hc, hd, rfl⟩ : ∃ c d, 1 ≤ c ∧ d < 10 ∧ m = 10 * c + d := ⟨m / 10, m % 10, by omega, by omega, by omega⟩
        rw [dec_step a b ha hb, dec_step c d hc hd, List.length_append, List.length_append]
        have := ih a (by omega) c (by omega)
        simpa using this
theorem dg_ok2 {c : UInt8} (h : dg c = true) : okC c = true ∧ sgn c = false := by
  have hv := dg_val h
  refine ⟨by unfold okC; rw [h]; simp, ?_⟩
  unfold sgn
  simp
  omega
theorem nth_valid {a b : Str} {n j : Nat} (ha : validC a = true) (hb : validC b = true) (hn : rangeN a b = n) (hj : j < n) : validC (nthS a j) = true := by
  unfold rangeN at hn
  split at hn
  · rename_i hr
    obtain ⟨h1, h2, h3, h4⟩ := hr
    have hbl := validC_len hb
    have hsp := pre_split a
    have hne := wr_ne (numL a + j) (lastS a).length
    have hdg := wr_dgs (numL a + j) (lastS a).length
    have hlen : (nthS a j).length ≤ 16 := by
      rw [← h4, List.length_append, wr_len] at hbl
      unfold nthS
      rw [List.length_append, wr_len]
      have := dec_mono2 (numL b) (numL a + j) (by omega)
      omega
    have hall : (nthS a j).all okC = true := by
      rw [List.all_eq_true]
      intro c hc
      unfold nthS at hc
      rcases List.mem_append.1 hc with hc | hc
      · have hca : c ∈ a := by rw [← hsp]; exact List.mem_append_left _ hc
        cases a with
        | nil => cases hca
        | cons x r =>
          unfold validC at ha
          simp only [Bool.and_eq_true] at ha
          exact List.all_eq_true.1 ha.2 c hca
      · exact (dg_ok2 (hdg c hc)).1
    cases hp : preS a with
    | nil =>
      have e : nthS a j = wrS (numL a + j) (lastS a).length := by unfold nthS; rw [hp]; rfl
      rw [e] at hlen hall ⊢
      cases hw : wrS (numL a + j) (lastS a).length with
      | nil => exact absurd hw hne
      | cons c r =>
        rw [hw] at hlen hall hdg
        have hs := (dg_ok2 (hdg c (by simp))).2
        unfold validC
        simp only [hs, hall, Bool.not_false, Bool.and_true, decide_eq_true_eq]
        exact hlen
    | cons c r =>
      have e : nthS a j = c :: (r ++ wrS (numL a + j) (lastS a).length) := by unfold nthS; rw [hp]; rfl
      have hac : a = c :: (r ++ lastS a) := by
        conv => lhs; rw [← hsp]
        rw [hp]
        rfl
      have hs : sgn c = false := by
        rw [hac] at ha
        unfold validC at ha
        simp only [Bool.and_eq_true, Bool.not_eq_true'] at ha
        exact ha.1.2
      rw [e] at hlen hall ⊢
      unfold validC
      simp only [hs, hall, Bool.not_false, Bool.and_true, decide_eq_true_eq]
      exact hlen
  · omega
end Go.Proofs.YtldnbneblpebiaaGreatDoor
