/-
  What List gives for a range of made codes (a letter and a number with a width). Mathematics alone. Conditions: as the lemmas state.
-/
import Derived.Test.YtldnbneblpebiaaGreatDoorList
set_option linter.unusedVariables false
namespace Go.Proofs.YtldnbneblpebiaaGreatDoor
open Go Go.Proofs Go.RowKit Go.Lib

theorem p80 : ∀ (q : Str) (c : UInt8), ([80] : Str) = q ++ [c] → dg c = false
  | [], c, h => by injection h with h _; subst h; decide
  | [_], c, h => by simp at h
  | _ :: _ :: _, c, h => by simp at h
theorem pw_pre (n w : Nat) : preS (80 :: wrS n w) = [80] := pre_app [80] (wrS n w) (wr_dgs n w) p80
theorem pw_last (n w : Nat) : lastS (80 :: wrS n w) = wrS n w := last_app [80] (wrS n w) (wr_dgs n w) p80
theorem pw_num (n w : Nat) : numL (80 :: wrS n w) = n := by unfold numL; rw [pw_last, wr_num]
theorem pw_has (n w : Nat) : hasL (80 :: wrS n w) = true := by
  unfold hasL
  rw [pw_last]
  cases h : wrS n w with
  | nil => exact absurd h (wr_ne n w)
  | cons c r => rfl
theorem dec_mono (n m : Nat) (h : n ≤ m) : (decDigits n).length ≤ (decDigits m).length :=
  dec_len n _ (Nat.lt_of_le_of_lt h (by have := numN_lt (decDigits m) (dec_dgs m); rwa [dec_num] at this)) (dec_pos m)
theorem wr_wider (n m w : Nat) (h : n ≤ m) : wrS m (max w (decDigits n).length) = wrS m w := by
  have := dec_mono n m h
  unfold wrS
  rw [show max w (decDigits n).length - (decDigits m).length = w - (decDigits m).length by omega]
theorem pw_range (n d w : Nat) : rangeN (80 :: wrS n w) (80 :: wrS (n + d) w) = d + 1 := by
  unfold rangeN
  rw [if_pos ⟨pw_has _ _, pw_has _ _, by rw [pw_num, pw_num]; omega, by rw [pw_pre, pw_num, pw_last, wr_len, wr_wider _ _ _ (by omega)]; rfl⟩, pw_num, pw_num]
  omega
theorem pw_nth (n w j : Nat) : nthS (80 :: wrS n w) j = 80 :: wrS (n + j) w := by
  unfold nthS
  rw [pw_pre, pw_num, pw_last, wr_len, wr_wider _ _ _ (by omega)]
  rfl
theorem pw_expand (n w d : Nat) : expandL (80 :: wrS n w) (d + 1) = (List.range (d + 1)).map (fun j => 80 :: wrS (n + j) w) := by
  unfold expandL
  rw [List.range_succ_eq_map, show d + 1 - 1 = d by omega, List.map_cons, List.map_map, Nat.add_zero]
  congr 1
  exact List.map_congr_left fun j _ => pw_nth n w (j + 1)
theorem dg_ok {c : UInt8} (h : dg c = true) : okC c = true := by unfold okC; rw [h]; simp
theorem pw_valid (n w : Nat) (hw : w ≤ 15) (hn : (decDigits n).length ≤ 15) : validC (80 :: wrS n w) = true := by
  show (decide ((80 :: wrS n w).length ≤ 16) && !sgn 80 && List.all (80 :: wrS n w) okC) = true
  rw [Bool.and_eq_true, Bool.and_eq_true]
  refine ⟨⟨decide_eq_true ?_, by decide⟩, List.all_eq_true.2 fun c hc => ?_⟩
  · rw [List.length_cons, wr_len]; omega
  · rcases List.mem_cons.1 hc with rfl | hc
    · decide
    · exact dg_ok (wr_dgs n w c hc)
theorem checkGo_ok : ∀ (r seen : List Str), (∀ c ∈ r, validC c = true) → (∀ c ∈ r, c ∉ seen) → r.Nodup → checkGo seen r = 0
  | [], _, _, _, _ => rfl
  | c :: r, seen, hv, hs, hn => by
    obtain ⟨h1, h2⟩ := List.nodup_cons.1 hn
    unfold checkGo
    rw [if_neg (by rw [hv c (.head _)]; simp), if_neg (hs c (.head _))]
    refine checkGo_ok r _ (fun x hx => hv x (.tail _ hx)) (fun x hx hm => ?_) h2
    rcases List.mem_append.1 hm with hm | hm
    · exact hs x (.tail _ hx) hm
    · obtain rfl := List.mem_singleton.1 hm
      exact h1 hx
theorem pw_nodup (n w d : Nat) : ((List.range d).map (fun j => (80 : UInt8) :: wrS (n + j) w)).Nodup := by
  refine List.pairwise_map.2 (List.Pairwise.imp (fun {a b} h e => h ?_) List.nodup_range)
  have := congrArg numL e
  rw [pw_num, pw_num] at this
  omega
theorem pw_none (c : UInt8) (hc : dg c = false) (h8 : c ≠ 80) (n w : Nat) : c ∉ (80 : UInt8) :: wrS n w := by
  intro h
  rcases List.mem_cons.1 h with h | h
  · exact h8 h
  · rw [wr_dgs n w c h] at hc; cases hc
theorem splitL_one : ∀ (l : Str), 59 ∉ l → splitL l = [l]
  | [], _ => rfl
  | c :: s, h => by
    have ih := splitL_one s (fun hm => h (.tail _ hm))
    unfold splitL
    rw [if_neg (fun e => h (by rw [e]; exact .head _)), ih]
    rfl
theorem index_dots (b : Str) : ∀ (a : Str), 46 ∉ a → index (a ++ 46 :: 46 :: b) [46, 46] = a.length
  | [], _ => by simp [index]
  | c :: a, h => by
    have ih := index_dots b a (fun hm => h (.tail _ hm))
    have hc : ¬ (46 : UInt8) = c := fun e => h (by rw [e]; exact .head _)
    show index (c :: (a ++ 46 :: 46 :: b)) [46, 46] = _
    unfold index
    rw [ih, if_neg (by simp [hc]), if_neg (by simp only [beq_iff_eq]; omega)]
    simp
theorem index_none : ∀ (b : Str), 46 ∉ b → index b [46, 46] = -1
  | [], _ => rfl
  | c :: b, h => by
    have ih := index_none b (fun hm => h (.tail _ hm))
    have hc : ¬ (46 : UInt8) = c := fun e => h (by rw [e]; exact .head _)
    unfold index
    rw [ih, if_neg (by simp [hc])]
    rfl
theorem cut_dots (a b : Str) (h : 46 ∉ a) : Lib.cut (a ++ 46 :: 46 :: b) dots2 = (a, b, true) := by
  unfold Lib.cut dots2
  rw [index_dots b a h, if_pos (by omega)]
  simp
/-- The text of the range. -/
def pwText (n d w : Nat) : Str := (80 :: wrS n w) ++ 46 :: 46 :: (80 :: wrS (n + d) w)
theorem pw_part (n d w : Nat) (hw : w ≤ 15) (hn : n + d < 1000000) (m : Int) : partM (pwText n d w) m = if m < ((d + 1 : Nat) : Int) then ([], 2) else (expandL (80 :: wrS n w) (d + 1), 0) := by
  have h1 := dec_len n 6 (by omega) (by omega)
  have h2 := dec_len (n + d) 6 (by omega) (by omega)
  have hc := cut_dots (80 :: wrS n w) (80 :: wrS (n + d) w) (pw_none 46 (by decide) (by decide) n w)
  have hb : befP (pwText n d w) = 80 :: wrS n w := by unfold befP pwText; rw [hc]
  have ha : aftP (pwText n d w) = 80 :: wrS (n + d) w := by unfold aftP pwText; rw [hc]
  have hi : isP (pwText n d w) = true := by unfold isP pwText; rw [hc]
  have hq : nP (pwText n d w) = d + 1 := by unfold nP; rw [if_pos hi, hb, ha, pw_range]
  have hcon : Lib.contains (80 :: wrS (n + d) w) dots2 = false := by
    unfold Lib.contains dots2
    rw [index_none _ (pw_none 46 (by decide) (by decide) _ _)]
    rfl
  unfold partM
  rw [hb, ha, hi, hq, pw_valid n w hw (by omega), pw_valid (n + d) w hw (by omega), hcon, if_neg (by simp [pwText]), if_neg (by simp), if_neg (by omega)]
theorem pw_list (n d w : Nat) (hw : w ≤ 15) (hn : n + d < 1000000) : listM (pwText n d w) = if 64 ≤ d then ([], 2) else ((List.range (d + 1)).map (fun j => 80 :: wrS (n + j) w), 0) := by
  have hs : splitL (pwText n d w) = [pwText n d w] := splitL_one _ (fun h => by
    rcases List.mem_append.1 h with h | h
    · exact pw_none 59 (by decide) (by decide) _ _ h
    · rcases List.mem_cons.1 h with h | h
      · cases h
      · rcases List.mem_cons.1 h with h | h
        · cases h
        · exact pw_none 59 (by decide) (by decide) _ _ h)
  have hp := pw_part n d w hw hn (64 - (([] : List Str).length : Int))
  unfold listM
  rw [if_neg (by simp [pwText]), hs]
  by_cases hd : 64 ≤ d
  · rw [if_pos (by simp; omega)] at hp
    rw [if_pos hd]
    simp only [listGo, hp]
    rfl
  · rw [if_neg (by simp; omega)] at hp
    rw [if_neg hd]
    simp only [listGo, hp, pw_expand]
    have hck : checkM ((List.range (d + 1)).map (fun j => (80 : UInt8) :: wrS (n + j) w)) = 0 := by
      unfold checkM
      rw [if_neg (by simp; omega)]
      refine checkGo_ok _ _ (fun c hc => ?_) (fun c _ => by simp) (pw_nodup n w (d + 1))
      obtain ⟨j, hj, rfl⟩ := List.mem_map.1 hc
      have hj' := List.mem_range.1 hj
      have := dec_len (n + j) 6 (by omega) (by omega)
      exact pw_valid _ _ hw (by omega)
    simp [hck]
end Go.Proofs.YtldnbneblpebiaaGreatDoor
