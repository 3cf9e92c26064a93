/-
  What Join makes of a list of codes, and that List reads it again. Mathematics alone. Conditions: as the lemmas state.
-/
import Derived.Test.YtldnbneblpebiaaGreatDoorRangesM
set_option linter.unusedVariables false
namespace Go.Proofs.YtldnbneblpebiaaGreatDoor
open Go Go.Proofs Go.RowKit Go.Lib

def aheadGo (f : Str) : Nat → List Str → Nat
  | i, [] => i
  | i, c :: r => if c = nthS f i then aheadGo f (i + 1) r else i
/-- How many codes of a list are a range, from its first one on. -/
def aheadM (l : List Str) : Nat := match l with | [] => 0 | f :: r => if hasL f = true then aheadGo f 1 r else 1
theorem aheadGo_facts (f : Str) : ∀ (r : List Str) (i : Nat), i ≤ aheadGo f i r ∧ aheadGo f i r ≤ i + r.length ∧ ∀ j, j < aheadGo f i r - i → r[j]? = some (nthS f (i + j))
  | [], i => ⟨by simp [aheadGo], by simp [aheadGo], fun j hj => by simp [aheadGo] at hj⟩
  | c :: r, i => by
    by_cases h : c = nthS f i
    · have e : aheadGo f i (c :: r) = aheadGo f (i + 1) r := if_pos h
      obtain ⟨h1, h2, h3⟩ := aheadGo_facts f r (i + 1)
      rw [e]
      refine ⟨by omega, by simp; omega, fun j hj => ?_⟩
      match j with
      | 0 => simp [h]
      | j + 1 =>
        have := h3 j (by omega)
        rw [List.getElem?_cons_succ, this, show i + 1 + j = i + (j + 1) by omega]
    · have e : aheadGo f i (c :: r) = i := if_neg h
      rw [e]
      exact ⟨Nat.le_refl _, by simp, fun j hj => by omega⟩
theorem ahead_pos (f : Str) (r : List Str) : 1 ≤ aheadM (f :: r) ∧ aheadM (f :: r) ≤ r.length + 1 := by
  unfold aheadM
  simp only
  split
  · have := aheadGo_facts f r 1; omega
  · omega
theorem ahead_has (f : Str) (r : List Str) (h : 2 ≤ aheadM (f :: r)) : hasL f = true := by
  unfold aheadM at h
  simp only at h
  split at h
  · assumption
  · omega
theorem ahead_nth (f : Str) (r : List Str) (j : Nat) (h : j + 1 < aheadM (f :: r)) : r[j]? = some (nthS f (j + 1)) := by
  have hh := ahead_has f r (by omega)
  unfold aheadM at h
  simp only [hh, if_true] at h
  have := (aheadGo_facts f r 1).2.2 j (by omega)
  rw [this, Nat.add_comm]
theorem ahead_take (f : Str) (r : List Str) (n : Nat) (hn : 1 ≤ n) (h : n ≤ aheadM (f :: r)) : (f :: r).take n = expandL f n := by
  obtain ⟨m, rfl⟩ : ∃ m, n = m + 1 := ⟨n - 1, by omega⟩
  unfold expandL
  rw [List.take_succ_cons, show m + 1 - 1 = m by omega]
  congr 1
  have hl := (ahead_pos f r).2
  refine List.ext_getElem (by simp; omega) (fun j h1 h2 => ?_)
  have hj : j < m := by simp at h1; omega
  have := ahead_nth f r j (by omega)
  rw [List.getElem?_eq_getElem (by omega)] at this
  simp [Option.some.inj this]
theorem pre_nth (f : Str) (d : Nat) : preS (nthS f d) = preS f := by
  unfold nthS
  exact pre_app _ _ (wr_dgs _ _) (fun q c h => pre_end f q c h)
theorem last_nth (f : Str) (d : Nat) : lastS (nthS f d) = wrS (numL f + d) (lastS f).length := by
  unfold nthS
  exact last_app _ _ (wr_dgs _ _) (fun q c h => pre_end f q c h)
theorem num_nth (f : Str) (d : Nat) : numL (nthS f d) = numL f + d := by
  unfold numL
  rw [last_nth, wr_num]
  rfl
theorem has_nth (f : Str) (d : Nat) : hasL (nthS f d) = true := by
  unfold hasL
  rw [last_nth]
  cases h : wrS (numL f + d) (lastS f).length with
  | nil => exact absurd h (wr_ne _ _)
  | cons c r => rfl
theorem range_nth (f : Str) (d : Nat) (h : hasL f = true) : rangeN f (nthS f d) = d + 1 := by
  unfold rangeN
  rw [if_pos ⟨h, has_nth _ _, by rw [num_nth]; omega, by rw [num_nth]; rfl⟩, num_nth]
  omega
theorem valid_mem {c : UInt8} {l : Str} (h : validC l = true) (hc : c ∈ l) : okC c = true := by
  unfold validC at h
  split at h
  · simp at hc
  · simp only [Bool.and_eq_true] at h
    exact List.all_eq_true.1 h.2 c hc
theorem valid_ne {l : Str} (h : validC l = true) : l ≠ [] := by
  rintro rfl
  simp [validC] at h
theorem valid_46 {l : Str} (h : validC l = true) : 46 ∉ l := fun hm => by have := valid_mem h hm; revert this; decide
theorem valid_59 {l : Str} (h : validC l = true) : 59 ∉ l := fun hm => by have := valid_mem h hm; revert this; decide

/-- The text of a range. -/
def rangeT (f : Str) (n : Nat) : Str := f ++ 46 :: 46 :: nthS f (n - 1)
/-- The parts of a list's text. -/
def joinP : Nat → List Str → List Str
  | 0, _ => []
  | _ + 1, [] => []
  | k + 1, f :: r => if 3 ≤ aheadM (f :: r) then rangeT f (aheadM (f :: r)) :: joinP k ((f :: r).drop (aheadM (f :: r))) else f :: joinP k r
theorem part_range (f : Str) (n : Nat) (m : Int) (hn : 1 ≤ n) (hm : (n : Int) ≤ m) (h : hasL f = true) (hf : validC f = true) (hl : validC (nthS f (n - 1)) = true) : partM (rangeT f n) m = (expandL f n, 0) := by
  have hc := cut_dots f (nthS f (n - 1)) (valid_46 hf)
  have hb : befP (rangeT f n) = f := by unfold befP rangeT; rw [hc]
  have ha : aftP (rangeT f n) = nthS f (n - 1) := by unfold aftP rangeT; rw [hc]
  have hi : isP (rangeT f n) = true := by unfold isP rangeT; rw [hc]
  have hq : nP (rangeT f n) = n := by unfold nP; rw [if_pos hi, hb, ha, range_nth _ _ h]; omega
  have hcon : Lib.contains (nthS f (n - 1)) dots2 = false := by
    unfold Lib.contains dots2
    rw [index_none _ (valid_46 hl)]
    rfl
  unfold partM
  rw [hb, ha, hi, hq, hf, hl, hcon, if_neg (by simp [rangeT]), if_neg (by simp), if_neg (by omega), if_neg (by omega)]
theorem cut_none (f : Str) (h : 46 ∉ f) : Lib.cut f dots2 = (f, [], false) := by
  unfold Lib.cut dots2
  rw [index_none f h, if_neg (by omega)]
theorem part_one (f : Str) (m : Int) (hm : 1 ≤ m) (hf : validC f = true) : partM f m = ([f], 0) := by
  have hc := cut_none f (valid_46 hf)
  have hb : befP f = f := by unfold befP; rw [hc]
  have ha : aftP f = [] := by unfold aftP; rw [hc]
  have hi : isP f = false := by unfold isP; rw [hc]
  have hq : nP f = 1 := by unfold nP; rw [hi]; rfl
  have hcon : Lib.contains [] dots2 = false := by decide
  unfold partM
  rw [hb, ha, hi, hq, hf, hcon, if_neg (by simp [valid_ne hf]), if_neg (by simp), if_neg (by omega), if_neg (by omega)]
  rfl
theorem list_parts : ∀ (k : Nat) (l : List Str) (acc : List Str), l.length ≤ k → (∀ c ∈ l, validC c = true) → acc.length + l.length ≤ 64 → listGo (joinP k l) acc = (acc ++ l, 0)
  | 0, l, acc, hk, _, _ => by
    obtain rfl : l = [] := List.eq_nil_of_length_eq_zero (by omega)
    simp [joinP, listGo]
  | k + 1, [], acc, _, _, _ => by simp [joinP, listGo]
  | k + 1, f :: r, acc, hk, hv, h64 => by
    have hp := ahead_pos f r
    simp only [List.length_cons] at hk h64
    unfold joinP
    by_cases h3 : 3 ≤ aheadM (f :: r)
    · rw [if_pos h3]
      obtain ⟨n, hn⟩ : ∃ n, aheadM (f :: r) = n := ⟨_, rfl⟩
      have htk := ahead_take f r (aheadM (f :: r)) hp.1 (Nat.le_refl _)
      have hnv : validC (nthS f (aheadM (f :: r) - 1)) = true := by
        have := ahead_nth f r (aheadM (f :: r) - 2) (by omega)
        rw [show aheadM (f :: r) - 2 + 1 = aheadM (f :: r) - 1 by omega] at this
        exact hv _ (List.mem_cons_of_mem _ (List.mem_of_getElem? this))
      have hpr := part_range f (aheadM (f :: r)) (64 - (acc.length : Int)) (by omega) (by omega) (ahead_has f r (by omega)) (hv f (.head _)) hnv
      rw [hn] at htk hpr h3 hp ⊢
      have hdl : ((f :: r).drop n).length = r.length + 1 - n := by simp
      have ih := list_parts k ((f :: r).drop n) (acc ++ expandL f n) (by omega) (fun c hc => hv c (List.mem_of_mem_drop hc)) (by rw [List.length_append, expandL_len _ _ (by omega)]; omega)
      simp only [listGo, hpr]
      rw [if_neg (by simp), ih, ← htk, List.append_assoc, List.take_append_drop]
    · rw [if_neg h3]
      have hpo := part_one f (64 - (acc.length : Int)) (by omega) (hv f (.head _))
      have ih := list_parts k r (acc ++ [f]) (by omega) (fun c hc => hv c (.tail _ hc)) (by simp; omega)
      simp only [listGo, hpo]
      rw [if_neg (by simp), ih]
      simp
theorem parts_59 : ∀ (k : Nat) (l : List Str), (∀ c ∈ l, validC c = true) → ∀ p ∈ joinP k l, 59 ∉ p
  | 0, l, _, p, hp => by simp [joinP] at hp
  | k + 1, [], _, p, hp => by simp [joinP] at hp
  | k + 1, f :: r, hv, p, hp => by
    unfold joinP at hp
    split at hp
    · rename_i h3
      rcases List.mem_cons.1 hp with rfl | hp
      · have hnv : validC (nthS f (aheadM (f :: r) - 1)) = true := by
          have := ahead_nth f r (aheadM (f :: r) - 2) (by omega)
          rw [show aheadM (f :: r) - 2 + 1 = aheadM (f :: r) - 1 by omega] at this
          exact hv _ (List.mem_cons_of_mem _ (List.mem_of_getElem? this))
        intro hm
        unfold rangeT at hm
        rcases List.mem_append.1 hm with hm | hm
        · exact valid_59 (hv f (.head _)) hm
        · rcases List.mem_cons.1 hm with hm | hm
          · revert hm; decide
          · rcases List.mem_cons.1 hm with hm | hm
            · revert hm; decide
            · exact valid_59 hnv hm
      · exact parts_59 k _ (fun c hc => hv c (List.mem_of_mem_drop hc)) p hp
    · rcases List.mem_cons.1 hp with rfl | hp
      · exact valid_59 (hv p (.head _))
      · exact parts_59 k r (fun c hc => hv c (.tail _ hc)) p hp
/-- Parts with semicolons between. -/
def semi : List Str → Str
  | [] => []
  | [p] => p
  | p :: q :: r => p ++ 59 :: semi (q :: r)
theorem split_cons (rest : Str) : ∀ (p : Str), 59 ∉ p → splitL (p ++ 59 :: rest) = p :: splitL rest
  | [], _ => by
    show splitL (59 :: rest) = _
    conv => lhs; unfold splitL
    rw [if_pos rfl]
  | c :: p, h => by
    have ih := split_cons rest p (fun hm => h (.tail _ hm))
    show splitL (c :: (p ++ 59 :: rest)) = _
    conv => lhs; unfold splitL
    rw [if_neg (fun e => h (by rw [e]; exact .head _)), ih]
    rfl
theorem split_semi : ∀ (l : List Str), l ≠ [] → (∀ p ∈ l, 59 ∉ p) → splitL (semi l) = l
  | [], h, _ => absurd rfl h
  | [p], _, h => splitL_one p (h p (.head _))
  | p :: q :: r, _, h => by
    have ih := split_semi (q :: r) (by simp) (fun x hx => h x (.tail _ hx))
    show splitL (p ++ 59 :: semi (q :: r)) = _
    rw [split_cons _ _ (h p (.head _)), ih]
/-- The text of a list of codes. -/
def joinM (l : List Str) : Str := semi (joinP l.length l)
theorem checkGo_valid : ∀ (r seen : List Str), checkGo seen r = 0 → ∀ c ∈ r, validC c = true
  | [], _, _, c, hc => by simp at hc
  | d :: r, seen, h, c, hc => by
    unfold checkGo at h
    split at h
    · simp at h
    · rename_i h1
      split at h
      · simp at h
      · rcases List.mem_cons.1 hc with rfl | hc
        · simpa using h1
        · exact checkGo_valid r _ h c hc
theorem check_valid {l : List Str} (h : checkM l = 0) : l.length ≤ 64 ∧ ∀ c ∈ l, validC c = true := by
  unfold checkM at h
  split at h
  · simp at h
  · exact ⟨by omega, checkGo_valid _ _ h⟩
/-- What was joined is listed again. -/
theorem list_join (l : List Str) (h : checkM l = 0) : listM (joinM l) = (l, 0) := by
  obtain ⟨h64, hv⟩ := check_valid h
  match l, h, h64, hv with
  | [], _, _, _ => rfl
  | f :: r, h, h64, hv =>
    have hne : joinP (f :: r).length (f :: r) ≠ [] := by
      show joinP (r.length + 1) (f :: r) ≠ []
      unfold joinP
      split <;> simp
    have hsp : splitL (joinM (f :: r)) = joinP (f :: r).length (f :: r) := split_semi _ hne (parts_59 _ _ hv)
    have hgo := list_parts (f :: r).length (f :: r) [] (Nat.le_refl _) hv (by simpa using h64)
    have hjn : joinM (f :: r) ≠ [] := by
      intro e
      have h2 := hsp
      rw [e] at h2
      have h3 : splitL [] = [[]] := rfl
      rw [h3] at h2
      have h4 := hgo
      rw [← h2] at h4
      have h5 : partM [] (64 - (([] : List Str).length : Int)) = ([], 4) := rfl
      simp only [listGo, h5] at h4
      rw [if_pos (by simp)] at h4
      simp at h4
    unfold listM
    rw [if_neg hjn, hsp, hgo, if_neg (by simp)]
    simp only [List.nil_append]
    rw [if_neg (by rw [h]; simp)]
end Go.Proofs.YtldnbneblpebiaaGreatDoor
