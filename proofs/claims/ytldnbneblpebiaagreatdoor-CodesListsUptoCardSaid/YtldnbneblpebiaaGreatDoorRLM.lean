/-
  The reference's List, what a part gives: plain mathematics. No program, no conditions.
-/
import Derived.Test.YtldnbneblpebiaaGreatDoorSplitR
import Derived.Test.YtldnbneblpebiaaGreatDoorDotsR
import Derived.Test.YtldnbneblpebiaaGreatDoorJoinR
import Derived.Test.YtldnbneblpebiaaGreatDoorList
set_option linter.unusedVariables false
namespace Go.Proofs.YtldnbneblpebiaaGreatDoor
open Go Go.Proofs Go.RowKit Go.Lib

theorem expand_range (a : Str) (n : Nat) (h1 : 1 ≤ n) (h : hasL a = true) : expandL a n = (List.range n).map (nthS a) := by
  obtain ⟨m, rfl⟩ : ∃ m, n = m + 1 := ⟨n - 1, by omega⟩
  unfold expandL
  rw [List.range_succ_eq_map, List.map_cons, nth_zero a h, Nat.add_sub_cancel, List.map_map]
  rfl
theorem cutNone {p : Str} (h : isP p = false) : befP p = p ∧ aftP p = [] := by
  unfold isP befP aftP Lib.cut at *
  by_cases hc : 0 ≤ Lib.index p dots2
  · rw [if_pos hc] at h; simp at h
  · rw [if_neg hc]; exact ⟨rfl, rfl⟩
theorem contains_nil : Lib.contains [] dots2 = false := by decide
theorem part_form {p : Str} {m : Int} (h : p = [] ∨ 1 < cntD p) {n a : Int} (hd : DotsAt p n a) : partM p m = ([], 4) := by
  unfold partM
  rw [if_pos]
  rcases h with h | h
  · exact .inl h
  · obtain ⟨_, k, _, _, _, _, hc⟩ := hd.yes (by omega)
    right
    rw [hc]
    exact decide_eq_true h
theorem partOne {p : Str} {m : Int} (hne : p ≠ []) (h : cntD p = 0) {n a : Int} (hd : DotsAt p n a) : partM p m = if validC p = false then ([], 10) else if m < 1 then ([], 2) else ([p], 0) := by
  have hi := hd.no h
  obtain ⟨hb, ha⟩ := cutNone hi
  unfold partM nP
  rw [hi, hb, ha, contains_nil, if_neg (by rintro (h | h); exact hne h; simp at h)]
  by_cases hv : validC p = false
  · rw [if_pos (.inl hv), if_pos hv]
  · rw [if_neg (by rintro (h | h); exact hv h; simp at h), if_neg hv]
    simp [expandL]
theorem part_two {p : Str} {m : Int} (hne : p ≠ []) (h : cntD p = 1) {n a : Int} (hd : DotsAt p n a) (hm : m ≤ 64) : partM p m = if validC (befP p) = false ∨ validC (aftP p) = false then ([], 10) else if rangeN (befP p) (aftP p) = 0 then ([], 3) else if m < (rangeN (befP p) (aftP p) : Int) then ([], 2) else ((List.range (rangeN (befP p) (aftP p))).map (nthS (befP p)), 0) := by
  obtain ⟨hi, k, _, _, _, _, hc⟩ := hd.yes (by omega)
  rw [h] at hc
  unfold partM nP
  rw [hi, hc, if_neg (by rintro (h | h); exact hne h; simp at h)]
  by_cases hv : validC (befP p) = false ∨ validC (aftP p) = false
  · rw [if_pos hv, if_pos (by rcases hv with h | h; exact .inl h; exact .inr ⟨rfl, h⟩)]
  · rw [if_neg hv, if_neg (by rintro (h | h); exact hv (.inl h); exact hv (.inr h.2))]
    simp only [if_true]
    by_cases h0 : rangeN (befP p) (aftP p) = 0
    · rw [if_pos h0, if_pos h0]
    · rw [if_neg h0, if_neg h0]
      have hh : hasL (befP p) = true := by
        unfold rangeN at h0
        split at h0
        · rename_i h; exact h.1
        · exact absurd rfl h0
      rw [expand_range _ _ (by omega) hh]
theorem list_err {s : Str} {ps : List Str} {p : Str} {rest L : List Str} {e : Int} (hs : s ≠ []) (hsp : splitL s = ps ++ p :: rest) (hg : listGo ps [] = (L, 0)) (hp : partM p (64 - (L.length : Int)) = ([], e)) (he : e ≠ 0) : listM s = ([], e) := by
  have h1 : listGo (splitL s) [] = ([], e) := by
    rw [hsp, listGo_app _ _ _ (by rw [hg]), hg]
    simp [listGo, hp, he]
  unfold listM
  rw [if_neg hs, h1, if_pos he]
theorem list_step {ps : List Str} {p : Str} {L M : List Str} (hg : listGo ps [] = (L, 0)) (hp : partM p (64 - (L.length : Int)) = (M, 0)) : listGo (ps ++ [p]) [] = (L ++ M, 0) := by
  rw [listGo_app _ _ _ (by rw [hg]), hg]
  simp [listGo, hp]
theorem list_end_ {s : Str} {L : List Str} (hs : s ≠ []) (hg : listGo (splitL s) [] = (L, 0)) : listM s = if checkM L ≠ 0 then ([], checkM L) else (L, 0) := by
  unfold listM
  rw [if_neg hs, hg, if_neg (by simp)]
end Go.Proofs.YtldnbneblpebiaaGreatDoor
