/-
  A time is read as it was written: plain mathematics. No program; condition: the time fits.
-/
import Derived.Test.YtaijbdknaeeoeaaGreatDoorTM
set_option linter.unusedVariables false
namespace Go.Proofs.YtaijbdknaeeoeaaGreatDoor
open Go Go.Lib

theorem cutAt (c : UInt8) : ∀ (a r : Str), has c a = false → bef c (a ++ c :: r) = a ∧ aft c (a ++ c :: r) = r ∧ has c (a ++ c :: r) = true
  | [], r, _ => by simp [bef, aft, has]
  | x :: a, r, h => by
    simp [has] at h
    obtain ⟨h1, h2, h3⟩ := cutAt c a r h.2
    simp only [List.cons_append, bef, aft, has, if_neg h.1, h1, h2, h3]
    simp
theorem item24 : ∀ a b : Fin 25, 1 ≤ a.val → a.val ≤ b.val → fromN (itemT a.val b.val) = a.val ∧ toN (itemT a.val b.val) = b.val ∧ has 32 (itemT a.val b.val) = false := by decide +kernel
theorem join_space : ∀ (l : List Str), (∀ x ∈ l, has 32 x = false) → has 32 (joinC l) = false
  | [], _ => rfl
  | [x], h => h x (by simp)
  | x :: y :: l, h => by
    show has 32 (x ++ 44 :: joinC (y :: l)) = false
    rw [has_app, h x (by simp)]
    simp only [has]
    rw [join_space (y :: l) (fun z hz => h z (List.mem_cons_of_mem _ hz))]
    rfl
theorem word_space : ∀ k : Fin 5, has 32 (wordS k.val) = false := by decide
theorem form_space {s n : Nat} (hs : s < 2 ^ n) (hn : n ≤ 20) : has 32 (formN s n) = false := by
  unfold formN
  cases h : nameK s n with
  | some k => exact word_space ⟨k, (nameK_of h).1⟩
  | none =>
    refine join_space _ (fun x hx => ?_)
    obtain ⟨r, hr, rfl⟩ := List.mem_map.1 hx
    obtain ⟨h1, h2, h3⟩ := runs_ok hs hn r hr
    exact (item24 ⟨r.1, by omega⟩ ⟨r.2, by omega⟩ h1 h2).2.2
theorem parseN_form {s n : Nat} (h1 : 1 ≤ s) (hs : s < 2 ^ n) (hn1 : 1 ≤ n) (hn : n ≤ 20) : parseN (formN s n) n = (s, 0) := by
  have h := parse_form h1 hs hn1 hn
  unfold parseM at h
  rw [if_pos (by omega), Int.toNat_natCast] at h
  exact h
theorem parseN_nil (n : Nat) : parseN [] n = (0, 4) := by
  have h : goP n (splitL []) 0 = (0, 4) := by
    show goP n [[]] 0 = _
    have h0 : itemM [] n = (0, 4) := by
      unfold itemM
      rw [show kindOf [] = none by decide]
      rfl
    rw [goP_err (by rw [h0]; simp), h0]
  unfold parseN
  rw [h]
  rfl
theorem valid_of' {k : Nat} {N : Int} (h : validM k N = true) : 1 ≤ N ∧ N ≤ 20 ∧ 1 ≤ k ∧ k < 2 ^ N.toNat := by
  obtain ⟨h1, h2, h3⟩ := of_decide_eq_true h
  refine ⟨h1.1, h1.2, by omega, ?_⟩
  have e : (2 : Int) ^ N.toNat = ((2 ^ N.toNat : Nat) : Int) := by rw [Int.natCast_pow]; rfl
  omega
theorem fits_of {d s b m n k y t l : Int} (h : fitsM d s b m n k y t l = 0) : frameB d s b m n = true ∧ soundB k y t l = true ∧ validM k n = true ∧ y < d ∧ t + l ≤ s := by
  unfold fitsM at h
  split at h
  · split at h
    · rename_i h1 h2
      exact ⟨h1, h2⟩
    · omega
  · omega
theorem time_parts {n k y t l : Nat} (hy : y < 7) (hl : 1 ≤ l) (htl : t + l ≤ 24) (h1 : 1 ≤ k) (hk : k < 2 ^ n) (hn : n ≤ 20) :
    wDay (timeT n k y t l) = dayS y ∧ wSlots (timeT n k y t l) = itemT (t + 1) (t + l) ∧ has 32 (timeT n k y t l) = true ∧
    wThree (timeT n k y t l) = decide (formN k n ≠ [97, 108, 108]) ∧ (formN k n ≠ [97, 108, 108] → wSet (timeT n k y t l) = formN k n) := by
  have hi := (item24 ⟨t + 1, by omega⟩ ⟨t + l, by omega⟩ (by simp) (by simp; omega)).2.2
  dsimp only at hi
  have hd := day_sign ⟨y, hy⟩
  dsimp only at hd
  unfold wDay wSlots wThree wSet timeT
  by_cases hf : formN k n = [97, 108, 108]
  · rw [if_pos hf, List.append_nil]
    obtain ⟨a1, a2, a3⟩ := cutAt 32 (dayS y) (itemT (t + 1) (t + l)) hd
    rw [a1, a2, a3, hi]
    exact ⟨rfl, (bef_miss 32 _ hi).1, rfl, (decide_eq_false (fun h => h hf)).symm, fun h => absurd hf h⟩
  · rw [if_neg hf]
    rw [List.append_assoc, List.cons_append]
    obtain ⟨a1, a2, a3⟩ := cutAt 32 (dayS y) (itemT (t + 1) (t + l) ++ 32 :: formN k n) hd
    obtain ⟨b1, b2, b3⟩ := cutAt 32 (itemT (t + 1) (t + l)) (formN k n) hi
    rw [a1, a2, a3, b1, b2, b3]
    exact ⟨rfl, rfl, rfl, (decide_eq_true hf).symm, fun _ => rfl⟩
theorem time_read {d s b m : Int} {n k y t l : Nat} (hf : fitsM d s b m n k y t l = 0) : timeM d s b m n (timeT n k y t l) = (((k : Int), (y : Int), (t : Int), (l : Int)), 0) := by
  obtain ⟨f1, f2, f3, f4, f5⟩ := fits_of hf
  obtain ⟨g1, g2, g3⟩ := frame_of f1
  obtain ⟨s1, s2, s3, s4, s5⟩ := sound_of f2
  obtain ⟨v1, v2, v3, v4⟩ := valid_of' f3
  rw [Int.toNat_natCast] at v4
  have hn : n ≤ 20 := by omega
  obtain ⟨p1, p2, p3, p4, p5⟩ := time_parts (n := n) (k := k) (y := y) (t := t) (l := l) (by omega) (by omega) (by omega) v3 v4 hn
  have hi := item24 ⟨t + 1, by omega⟩ ⟨t + l, by omega⟩ (by simp) (by simp; omega)
  dsimp only at hi
  obtain ⟨i1, i2, i3⟩ := hi
  have hform := parseN_form v3 v4 (show 1 ≤ n by omega) hn
  have hW : weeksT (timeT n k y t l) n = (k, 0) := by
    unfold weeksT
    rw [p4]
    by_cases hfa : formN k n = [97, 108, 108]
    · rw [if_neg (by simp [hfa])]
      rw [hfa, parse_all (by omega) hn] at hform
      exact hform
    · rw [if_pos (decide_eq_true hfa), p5 hfa]
      exact hform
  have hwb : wordsB (timeT n k y t l) = true := by
    unfold wordsB
    rw [p4]
    refine decide_eq_true (fun h => ?_)
    have hfa := of_decide_eq_true h
    rw [p5 hfa]
    refine ⟨fun e => ?_, form_space v4 hn⟩
    rw [e, parseN_nil] at hform
    injection hform with h1 h2
    simp at h2
  unfold timeM
  rw [if_pos f1, Int.toNat_natCast]
  unfold bodyT
  rw [p1, p2, i1, i2, if_pos ⟨hwb, by omega⟩, dayK_of (show y < 7 by omega) rfl]
  show readT d s n _ y = _
  unfold readT
  rw [p2, i1, i2, hW, if_pos ⟨f4, by omega, by omega⟩, if_pos rfl]
  dsimp only
  congr 1
  refine Prod.ext rfl (Prod.ext rfl (Prod.ext ?_ ?_))
  · show ((t + 1 : Nat) : Int) - 1 = t
    omega
  · show ((t + l : Nat) : Int) - ((t + 1 : Nat) : Int) + 1 = l
    omega
theorem form_lenM {s n : Nat} : (formN s n).length ≤ 200 := by
  unfold formN
  cases nameK s n with
  | some k =>
    show (wordS k).length ≤ 200
    unfold wordS
    split <;> simp
  | none =>
    show (textM s).length ≤ 200
    unfold textM
    have h1 := joinC_len ((runs (weeksP s 20)).map fun r => itemT r.1 r.2) (fun x hx => by
      obtain ⟨r, _, rfl⟩ := List.mem_map.1 hx
      exact itemT_len _ _)
    have h2 := runs_len _ (weeksP s 20) (Nat.le_refl _)
    have h3 := weeksP_len s 20
    rw [List.length_map] at h1
    omega
theorem time_len {n k y t l : Nat} : (timeT n k y t l).length ≤ 300 := by
  have h1 := form_lenM (s := k) (n := n)
  have h2 := itemT_len (t + 1) (t + l)
  have h3 : (dayS y).length ≤ 2 := by unfold dayS; split <;> simp
  unfold timeT
  split
  · simp only [List.length_append, List.length_cons, List.length_nil]
    omega
  · simp only [List.length_append, List.length_cons]
    omega
end Go.Proofs.YtaijbdknaeeoeaaGreatDoor
