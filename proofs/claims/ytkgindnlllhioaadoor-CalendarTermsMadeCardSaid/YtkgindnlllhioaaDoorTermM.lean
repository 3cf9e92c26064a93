/-
  Terms as plain mathematics: the holidays' first error, the term's first error, the day of a place, the place of a day, the days of a time. No conditions.
-/
import Derived.Test.YtkgindnlllhioaaDoorCal
set_option linter.unusedVariables false
namespace Go.Proofs.YtkgindnlllhioaaDoor
namespace Cal

def dayB (d : Int) : Bool := decide (0 ≤ d ∧ d ≤ 36524)
/-- What Weekday returns. -/
def wdM (d : Int) : Int := if dayB d then (d + 5) % 7 else -1
/-- The holidays' first error, from the holiday k on. -/
def bad (lo hi : Int) (L : List Int) (k : Nat) : Int :=
  if ¬ (lo ≤ L.getD k 0 ∧ L.getD k 0 ≤ hi) then 13 else if 0 < k ∧ L.getD k 0 ≤ L.getD (k - 1) 0 then 11 else 0
def holF (lo hi : Int) (L : List Int) : Nat → Nat → Int
  | _, 0 => 0
  | k, n + 1 => if bad lo hi L k ≠ 0 then bad lo hi L k else holF lo hi L (k + 1) n
def holM (lo hi : Int) (L : List Int) (k : Nat) : Int := holF lo hi L k (L.length - k)
theorem holM_end (lo hi : Int) (L : List Int) (k : Nat) (h : L.length ≤ k) : holM lo hi L k = 0 := by
  unfold holM
  rw [show L.length - k = 0 by omega]
  rfl
theorem holM_step (lo hi : Int) (L : List Int) (k : Nat) (h : k < L.length) : holM lo hi L k = if bad lo hi L k ≠ 0 then bad lo hi L k else holM lo hi L (k + 1) := by
  unfold holM
  obtain ⟨n, hn⟩ : ∃ n, L.length - k = n + 1 := ⟨L.length - k - 1, by omega⟩
  rw [hn, show L.length - (k + 1) = n by omega]
  rfl
theorem holM_13 {lo hi : Int} {L : List Int} {k : Nat} (h : k < L.length) (h1 : ¬ (lo ≤ L.getD k 0 ∧ L.getD k 0 ≤ hi)) : holM lo hi L k = 13 := by
  have e : bad lo hi L k = 13 := by unfold bad; rw [if_pos h1]
  rw [holM_step _ _ _ _ h, e]
  rfl
theorem holM_11 {lo hi : Int} {L : List Int} {k : Nat} (h : k < L.length) (h1 : lo ≤ L.getD k 0 ∧ L.getD k 0 ≤ hi) (h0 : 0 < k) (h2 : L.getD k 0 ≤ L.getD (k - 1) 0) : holM lo hi L k = 11 := by
  have e : bad lo hi L k = 11 := by unfold bad; rw [if_neg (fun hh => hh h1), if_pos ⟨h0, h2⟩]
  rw [holM_step _ _ _ _ h, e]
  rfl
theorem holM_on {lo hi : Int} {L : List Int} {k : Nat} (h : k < L.length) (h1 : lo ≤ L.getD k 0 ∧ L.getD k 0 ≤ hi) (h2 : ¬ (0 < k ∧ L.getD k 0 ≤ L.getD (k - 1) 0)) : holM lo hi L k = holM lo hi L (k + 1) := by
  have e : bad lo hi L k = 0 := by unfold bad; rw [if_neg (fun hh => hh h1), if_neg h2]
  rw [holM_step _ _ _ _ h, e]
  rfl

/-- The first error of a term. -/
def validM (F W : Int) (L : List Int) : Int :=
  if wdM F ≠ 0 then 13 else if W < 1 ∨ 20 < W then 3 else if dayB (F + 7 * W - 1) = false then 13 else if 64 < L.length then 2 else holM F (F + 7 * W - 1) L 0
/-- A term that is valid. -/
structure Term (F W : Int) (L : List Int) : Prop where
  f0 : 0 ≤ F
  mon : (F + 5) % 7 = 0
  w0 : 1 ≤ W
  w1 : W ≤ 20
  last : F + 7 * W - 1 ≤ 36524
  len : L.length ≤ 64
  hol : holM F (F + 7 * W - 1) L 0 = 0
theorem dayB_iff (d : Int) : dayB d = true ↔ 0 ≤ d ∧ d ≤ 36524 := by simp [dayB]
theorem wdM_zero (F : Int) : wdM F = 0 ↔ (0 ≤ F ∧ F ≤ 36524) ∧ (F + 5) % 7 = 0 := by
  unfold wdM
  by_cases h : dayB F = true
  · rw [if_pos h]; have := (dayB_iff F).1 h; simp [this]
  · rw [if_neg h]; have : ¬ (0 ≤ F ∧ F ≤ 36524) := fun hh => h ((dayB_iff F).2 hh); simp [this]
theorem valid_term {F W : Int} {L : List Int} : validM F W L = 0 ↔ Term F W L := by
  unfold validM
  constructor
  · intro h
    by_cases h1 : wdM F = 0
    · by_cases h2 : W < 1 ∨ 20 < W
      · simp [h1, h2] at h
      · by_cases h3 : dayB (F + 7 * W - 1) = true
        · by_cases h4 : 64 < L.length
          · simp [h1, h2, h3, h4] at h
          · have a := (wdM_zero F).1 h1
            have b := (dayB_iff _).1 h3
            simp [h1, h2, h3, h4] at h
            exact ⟨a.1.1, a.2, by omega, by omega, by omega, by omega, h⟩
        · simp [h1, h2, h3] at h
    · simp [h1] at h
  · intro h
    have h1 : wdM F = 0 := (wdM_zero F).2 ⟨⟨h.f0, by have := h.last; have := h.w0; omega⟩, h.mon⟩
    have h2 : ¬ (W < 1 ∨ 20 < W) := by have := h.w0; have := h.w1; omega
    have h3 : dayB (F + 7 * W - 1) = true := (dayB_iff _).2 ⟨by have := h.f0; have := h.w0; omega, h.last⟩
    have h4 : ¬ 64 < L.length := by have := h.len; omega
    simp [h1, h2, h3, h4, h.hol]
/-- The day of a place. -/
def atB (F W : Int) (L : List Int) (k d : Int) : Bool := decide (validM F W L = 0 ∧ 1 ≤ k ∧ k ≤ W ∧ 0 ≤ d ∧ d < 7 ∧ F + 7 * (k - 1) + d ∉ L)
def atM (F W : Int) (L : List Int) (k d : Int) : Int := if atB F W L k d then F + 7 * (k - 1) + d else 0
/-- The place of a day. -/
def whereB (F W : Int) (L : List Int) (d : Int) : Bool := decide (validM F W L = 0 ∧ F ≤ d ∧ d ≤ F + 7 * W - 1 ∧ d ∉ L)
def whereW (F W : Int) (L : List Int) (d : Int) : Int := if whereB F W L d then (d - F) / 7 + 1 else 0
def whereD (F W : Int) (L : List Int) (d : Int) : Int := if whereB F W L d then (d - F) % 7 else 0
/-- The days of a time, of the first k weeks. -/
def bitB (S : Int) (i : Nat) : Bool := decide (S / 2 ^ i % 2 = 1)
def daysF (F W : Int) (L : List Int) (S d : Int) (k : Nat) : List Int :=
  (List.range k).filterMap fun i => if bitB S i && atB F W L (i + 1) d then some (atM F W L (i + 1) d) else none
theorem daysF_zero (F W : Int) (L : List Int) (S d : Int) : daysF F W L S d 0 = [] := rfl
theorem daysF_yes {F W : Int} {L : List Int} {S d : Int} {k : Nat} (h : bitB S k = true) (h1 : atB F W L (k + 1) d = true) : daysF F W L S d (k + 1) = daysF F W L S d k ++ [atM F W L (k + 1) d] := by
  unfold daysF
  rw [List.range_succ, List.filterMap_append]
  simp [h, h1]
theorem daysF_no {F W : Int} {L : List Int} {S d : Int} {k : Nat} (h : bitB S k = false ∨ atB F W L (k + 1) d = false) : daysF F W L S d (k + 1) = daysF F W L S d k := by
  unfold daysF
  rw [List.range_succ, List.filterMap_append]
  rcases h with h | h <;> simp [h]
theorem daysF_len (F W : Int) (L : List Int) (S d : Int) (k : Nat) : (daysF F W L S d k).length ≤ k := by
  unfold daysF
  have := List.length_filterMap_le (fun i : Nat => if bitB S i && atB F W L (i + 1) d then some (atM F W L (i + 1) d) else none) (List.range k)
  simpa using this
def daysM (F W : Int) (L : List Int) (S d : Int) : List Int := if S < 0 then [] else daysF F W L S d 20
end Cal
end Go.Proofs.YtkgindnlllhioaaDoor
