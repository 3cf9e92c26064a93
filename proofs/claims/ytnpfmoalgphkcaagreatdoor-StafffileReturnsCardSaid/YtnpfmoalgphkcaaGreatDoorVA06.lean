/-
  The text of a set: plain mathematics. No program, no conditions.
  What is written is read: plain mathematics. No program, no conditions.
  Grids and times of the week: plain mathematics. No program, no conditions.
  The words of a time's text, and the name of a day: cutWords and dayOf of timegrid. Conditions: the table of the days' names holds what its text lays.
-/
import Derived.Test.YtnpfmoalgphkcaaGreatDoorVA05
set_option linter.unusedVariables false
namespace Go.Proofs.YtnpfmoalgphkcaaGreatDoor
open Go Go.Lib

theorem dec_dec2 (u : Nat) (h : u < 100) : decDigits u = dec2 u := by
  unfold dec2
  by_cases hu : u < 10
  · rw [if_pos hu]
    exact Lib.decDigits_one hu
  · rw [if_neg hu, decDigits, dif_neg hu, Lib.decDigits_one (show u / 10 < 10 by omega)]
    rfl
/-- The weeks from the i-th bit on, of k bits. -/
def wF (s : Nat) : Nat → Nat → List Nat
  | _, 0 => []
  | i, k + 1 => if bitB s i = true then (i + 1) :: wF s (i + 1) k else wF s (i + 1) k
theorem wF_yes {s i k : Nat} (h : bitB s i = true) : wF s i (k + 1) = (i + 1) :: wF s (i + 1) k := if_pos h
theorem wF_no {s i k : Nat} (h : bitB s i = false) : wF s i (k + 1) = wF s (i + 1) k := if_neg (by rw [h]; simp)
theorem weeksP_wF (s : Nat) : ∀ k i, weeksP s i ++ wF s i k = weeksP s (i + k)
  | 0, i => by simp [wF]
  | k + 1, i => by
    have ih := weeksP_wF s k (i + 1)
    rw [show i + (k + 1) = i + 1 + k by omega, ← ih]
    cases h : bitB s i with
    | true => rw [wF_yes h, weeksP_yes h, List.append_assoc]; rfl
    | false => rw [wF_no h, weeksP_no h]
theorem wF_all (s n : Nat) : wF s 0 n = weeksP s n := by
  have := weeksP_wF s n 0
  rw [Nat.zero_add] at this
  exact this
theorem wF_gt (s : Nat) : ∀ k i x, x ∈ wF s i k → i < x
  | 0, i, x, h => by simp [wF] at h
  | k + 1, i, x, h => by
    cases hb : bitB s i with
    | true =>
      rw [wF_yes hb] at h
      rcases List.mem_cons.1 h with rfl | h
      · omega
      · have := wF_gt s k (i + 1) x h; omega
    | false =>
      rw [wF_no hb] at h
      have := wF_gt s k (i + 1) x h
      omega
/-- How many bits from the i-th on are set, of k. -/
def cB (s : Nat) : Nat → Nat → Nat
  | _, 0 => 0
  | i, k + 1 => if bitB s i = true then cB s (i + 1) k + 1 else 0
theorem cB_le (s : Nat) : ∀ k i, cB s i k ≤ k
  | 0, i => Nat.le_refl _
  | k + 1, i => by
    have := cB_le s k (i + 1)
    unfold cB
    split <;> omega
theorem cB_bit (s : Nat) : ∀ k i j, j < cB s i k → bitB s (i + j) = true
  | 0, i, j, h => by simp [cB] at h
  | k + 1, i, j, h => by
    unfold cB at h
    split at h
    · rename_i hb
      cases j with
      | zero => exact hb
      | succ j =>
        have := cB_bit s k (i + 1) j (by omega)
        rw [show i + (j + 1) = i + 1 + j by omega]
        exact this
    · omega
theorem cB_end (s : Nat) : ∀ k i, cB s i k < k → bitB s (i + cB s i k) = false
  | 0, i, h => by omega
  | k + 1, i, h => by
    unfold cB at h ⊢
    split at h
    · rename_i hb
      rw [if_pos hb]
      have := cB_end s k (i + 1) (by omega)
      rw [show i + (cB s (i + 1) k + 1) = i + 1 + cB s (i + 1) k by omega]
      exact this
    · rename_i hb
      rw [if_neg hb]
      simpa using hb
theorem cnt_wF (s : Nat) : ∀ k i, cnt i (wF s i k) = cB s i k
  | 0, i => rfl
  | k + 1, i => by
    cases hb : bitB s i with
    | true =>
      rw [wF_yes hb]
      unfold cnt cB
      rw [if_pos rfl, if_pos hb, cnt_wF s k (i + 1)]
    | false =>
      rw [wF_no hb]
      have e : cB s i (k + 1) = 0 := if_neg (by rw [hb]; simp)
      rw [e]
      cases hl : wF s (i + 1) k with
      | nil => rfl
      | cons x l =>
        have := wF_gt s k (i + 1) x (by rw [hl]; simp)
        unfold cnt
        rw [if_neg (by omega)]
theorem drop_wF (s : Nat) : ∀ k i c, c ≤ cB s i k → (wF s i k).drop c = wF s (i + c) (k - c)
  | k, i, 0, _ => by simp
  | 0, i, c + 1, h => by simp [cB] at h
  | k + 1, i, c + 1, h => by
    unfold cB at h
    split at h
    · rename_i hb
      rw [wF_yes hb, List.drop_succ_cons, drop_wF s k (i + 1) c (by omega)]
      congr 1 <;> omega
    · omega
theorem runs_nil : runs [] = [] := by rw [runs]
theorem runs_cons (a : Nat) (l : List Nat) : runs (a :: l) = (a, a + cnt a l) :: runs (l.drop (cnt a l)) := by rw [runs]
/-- The items that are left. -/
def itemsF (s i k : Nat) : List Str := (runs (wF s i k)).map fun r => itemT r.1 r.2
theorem items_no {s i k : Nat} (h : bitB s i = false) : itemsF s i (k + 1) = itemsF s (i + 1) k := by unfold itemsF; rw [wF_no h]
theorem items_yes {s i k : Nat} (h : bitB s i = true) : itemsF s i (k + 1) = itemT (i + 1) (i + 1 + cB s (i + 1) k) :: itemsF s (i + 1 + cB s (i + 1) k) (k - cB s (i + 1) k) := by
  unfold itemsF
  rw [wF_yes h, runs_cons, cnt_wF, drop_wF s k (i + 1) _ (Nat.le_refl _)]
  rfl
theorem textM_items {s n : Nat} (hs : s < 2 ^ n) (hn : n ≤ 20) : textM s = joinC (itemsF s 0 n) := by
  unfold textM itemsF
  rw [wF_all, show (20 : Nat) = n + (20 - n) by omega, weeksP_top hs]
theorem joinC_snoc : ∀ (l : List Str) (x : Str), l ≠ [] → joinC (l ++ [x]) = joinC l ++ 44 :: x
  | [], x, h => absurd rfl h
  | [a], x, _ => by simp [joinC]
  | a :: b :: l, x, _ => by
    have ih := joinC_snoc (b :: l) x (by simp)
    have e1 : joinC (a :: b :: l ++ [x]) = a ++ 44 :: joinC ((b :: l) ++ [x]) := rfl
    have e2 : joinC (a :: b :: l) = a ++ 44 :: joinC (b :: l) := rfl
    rw [e1, ih, e2]
    simp
theorem dec2_ne (u : Nat) : dec2 u ≠ [] := by unfold dec2; split <;> simp
theorem itemT_ne (a b : Nat) : itemT a b ≠ [] := by
  have := dec2_ne a
  unfold itemT
  split
  · exact this
  · simp [this]
theorem joinC_ne : ∀ (l : List Str), (∀ x ∈ l, x ≠ []) → l ≠ [] → joinC l ≠ []
  | [], _, h => absurd rfl h
  | [a], h, _ => h a (by simp)
  | a :: b :: l, h, _ => by simp [joinC, h a (by simp)]
theorem dec2_len (u : Nat) : (dec2 u).length ≤ 2 := by unfold dec2; split <;> simp
theorem itemT_len (a b : Nat) : (itemT a b).length ≤ 5 := by
  have h1 := dec2_len a
  have h2 := dec2_len b
  unfold itemT
  split <;> simp <;> omega
theorem joinC_len : ∀ (l : List Str), (∀ x ∈ l, x.length ≤ 5) → (joinC l).length ≤ 6 * l.length
  | [], _ => by simp [joinC]
  | [a], h => by have := h a (by simp); simp [joinC]; omega
  | a :: b :: l, h => by
    have := joinC_len (b :: l) (fun x hx => h x (List.mem_cons_of_mem _ hx))
    have h1 := h a (by simp)
    simp [joinC] at this ⊢
    omega
theorem joinC_lib : ∀ (l : List Str), Lib.join l [44] = joinC l
  | [] => rfl
  | [a] => by rw [Lib.join_one]; rfl
  | a :: b :: l => by
    have ih := joinC_lib (b :: l)
    have e : Lib.join (a :: b :: l) [44] = a ++ 44 :: Lib.join (b :: l) [44] := by
      unfold Lib.join
      simp [List.intercalate]
    rw [e, ih]
    rfl
theorem runs_len : ∀ (k : Nat) (l : List Nat), l.length ≤ k → (runs l).length ≤ l.length
  | 0, l, hl => by
    obtain rfl : l = [] := List.eq_nil_of_length_eq_zero (by omega)
    simp [runs_nil]
  | k + 1, [], hl => by simp [runs_nil]
  | k + 1, a :: l, hl => by
    rw [runs_cons]
    have := runs_len k (l.drop (cnt a l)) (by simp at hl ⊢; omega)
    simp at this ⊢
    omega
end Go.Proofs.YtnpfmoalgphkcaaGreatDoor

set_option linter.unusedVariables false
namespace Go.Proofs.YtnpfmoalgphkcaaGreatDoor
open Go Go.Lib

theorem split_one : ∀ (x : Str), has 44 x = false → splitL x = [x] := fun x h => by rw [splitL_has, if_neg (by rw [h]; simp)]
theorem word_split : ∀ k : Fin 5, has 44 (wordS k.val) = false ∧ kindOf (wordS k.val) = some k.val := by decide
theorem go_word {n k : Nat} (hk : k < 5) (acc : Nat) : goP n (splitL (wordS k)) acc = (acc ||| nmM k n, 0) := by
  obtain ⟨h1, h2⟩ := word_split ⟨k, hk⟩
  dsimp only at h1 h2
  have hi : itemM (wordS k) n = (nmM k n, 0) := by unfold itemM; rw [h2]
  rw [split_one _ h1, goP_ok (by rw [hi]), hi]
  rfl
theorem parse_word {n k : Nat} (hk : k < 5) (hn1 : 1 ≤ n) (hn : n ≤ 20) (h : nmM k n ≠ 0) : parseM (wordS k) (n : Int) = (nmM k n, 0) := by
  unfold parseM
  rw [if_pos ⟨by omega, by omega⟩, Int.toNat_natCast]
  unfold parseN
  rw [go_word hk, Nat.zero_or, if_neg (by simp), if_neg h]
end Go.Proofs.YtnpfmoalgphkcaaGreatDoor

set_option linter.unusedVariables false
namespace Go.Proofs.YtnpfmoalgphkcaaGreatDoor
open Go Go.Lib

def GridP (d s b m : Int) : Prop := (1 ≤ d ∧ d ≤ 7) ∧ (1 ≤ s ∧ s ≤ 24) ∧ (0 ≤ b ∧ b ≤ 1439) ∧ (5 ≤ m ∧ m ≤ 120) ∧ b + s * m ≤ 1440
instance (d s b m : Int) : Decidable (GridP d s b m) := by unfold GridP; infer_instance
def gridB (d s b m : Int) : Bool := decide (GridP d s b m)
def frameB (d s b m n : Int) : Bool := decide (gridB d s b m = true ∧ 1 ≤ n ∧ n ≤ 20)
def SoundP (k y t l : Int) : Prop := validM k 20 = true ∧ (0 ≤ y ∧ y ≤ 6) ∧ 0 ≤ t ∧ 1 ≤ l ∧ t + l ≤ 24
instance (k y t l : Int) : Decidable (SoundP k y t l) := by unfold SoundP; infer_instance
def soundB (k y t l : Int) : Bool := decide (SoundP k y t l)
def fitsM (d s b m n k y t l : Int) : Int :=
  if frameB d s b m n = true then (if soundB k y t l = true ∧ validM k n = true ∧ y < d ∧ t + l ≤ s then 0 else 14) else 1
def meetB (k y t l k' y' t' l' : Int) : Bool := decide (soundB k y t l = true ∧ soundB k' y' t' l' = true ∧ bits .and .i64 k k' ≠ 0 ∧ y = y')
def gapI (t l t' l' : Int) : Int := max (max t t' - min (t + l) (t' + l')) (-1)
def betM (k y t l k' y' t' l' : Int) : Int × Bool := if meetB k y t l k' y' t' l' = true then (gapI t l t' l', true) else (0, false)
def overB (k y t l k' y' t' l' : Int) : Bool := (betM k y t l k' y' t' l').2 && decide ((betM k y t l k' y' t' l').1 < 0)
/-! ### texts of times -/
def dayS : Nat → Str
  | 0 => [77, 111]
  | 1 => [84, 117]
  | 2 => [87, 101]
  | 3 => [84, 104]
  | 4 => [70, 114]
  | 5 => [83, 97]
  | _ => [83, 117]
def dayK (x : Str) : Option Nat := (List.range 7).find? fun k => decide (dayS k = x)
/-- The words of a time's text. -/
def wDay (x : Str) : Str := bef 32 x
def wSlots (x : Str) : Str := bef 32 (aft 32 x)
def wSet (x : Str) : Str := aft 32 (aft 32 x)
def wThree (x : Str) : Bool := has 32 (aft 32 x)
/-- The words are as they must be: two or three of them. -/
def wordsB (x : Str) : Bool := decide (wThree x = true → wSet x ≠ [] ∧ has 32 (wSet x) = false)
/-- The weeks that a text names. -/
def weeksT (x : Str) (n : Nat) : Nat × Int := if wThree x = true then parseN (wSet x) n else (2 ^ n - 1, 0)
def readT (d s : Int) (n : Nat) (x : Str) (k : Nat) : (Int × Int × Int × Int) × Int :=
  if (k : Int) < d ∧ ¬ toN (wSlots x) < fromN (wSlots x) ∧ (toN (wSlots x) : Int) ≤ s then
    (if (weeksT x n).2 = 0 then ((((weeksT x n).1 : Nat), (k : Int), (fromN (wSlots x) : Int) - 1, (toN (wSlots x) : Int) - (fromN (wSlots x) : Int) + 1), 0) else ((0, 0, 0, 0), (weeksT x n).2))
  else ((0, 0, 0, 0), 14)
def bodyT (d s : Int) (n : Nat) (x : Str) : (Int × Int × Int × Int) × Int :=
  if wordsB x = true ∧ ¬ (fromN (wSlots x) = 0 ∨ toN (wSlots x) = 0) then (match dayK (wDay x) with | some k => readT d s n x k | none => ((0, 0, 0, 0), 4)) else ((0, 0, 0, 0), 4)
/-- What Parse hands back. -/
def timeM (d s b m n : Int) (x : Str) : (Int × Int × Int × Int) × Int := if frameB d s b m n = true then bodyT d s n.toNat x else ((0, 0, 0, 0), 1)
/-- The text of a time. -/
def timeT (n k y t l : Nat) : Str := dayS y ++ 32 :: itemT (t + 1) (t + l) ++ (if formN k n = [97, 108, 108] then [] else 32 :: formN k n)
/-- What Format hands back. -/
def textT (d s b m n k y t l : Int) : Str × Int := if fitsM d s b m n k y t l = 0 then (timeT n.toNat k.toNat y.toNat t.toNat l.toNat, 0) else ([], fitsM d s b m n k y t l)

/-! ### what is used of them -/
theorem grid_of {d s b m : Int} (h : gridB d s b m = true) : GridP d s b m := of_decide_eq_true h
theorem frame_of {d s b m n : Int} (h : frameB d s b m n = true) : GridP d s b m ∧ 1 ≤ n ∧ n ≤ 20 := by
  obtain ⟨h1, h2⟩ := of_decide_eq_true h
  exact ⟨grid_of h1, h2⟩
theorem sound_of {k y t l : Int} (h : soundB k y t l = true) : SoundP k y t l := of_decide_eq_true h
theorem dayK_some {x : Str} {k : Nat} (h : dayK x = some k) : k < 7 ∧ dayS k = x := by
  have h1 := List.find?_some h
  have h2 := List.mem_of_find?_eq_some h
  exact ⟨List.mem_range.1 h2, by simpa using h1⟩
theorem dayK_of {k : Nat} {x : Str} (hk : k < 7) (h : dayS k = x) : dayK x = some k := by
  subst h
  rcases (show k = 0 ∨ k = 1 ∨ k = 2 ∨ k = 3 ∨ k = 4 ∨ k = 5 ∨ k = 6 by omega) with rfl | rfl | rfl | rfl | rfl | rfl | rfl <;> decide
theorem dayK_none {x : Str} (h : ∀ i, i < 7 → dayS i ≠ x) : dayK x = none := by
  unfold dayK
  rw [List.find?_eq_none]
  intro k hk
  simp only [decide_eq_true_eq]
  exact h k (List.mem_range.1 hk)
theorem nm_all : ∀ n : Fin 21, nmM 0 n.val = 2 ^ n.val - 1 := by decide +kernel
theorem parse_all {n : Nat} (h1 : 1 ≤ n) (h2 : n ≤ 20) : parseN [97, 108, 108] n = (2 ^ n - 1, 0) := by
  have hp : 2 ^ 1 ≤ 2 ^ n := pow_le h1
  have h0 := nm_all ⟨n, by omega⟩
  dsimp only at h0
  have h := parse_word (k := 0) (n := n) (by omega) h1 h2 (by rw [h0]; omega)
  rw [h0] at h
  unfold parseM at h
  rw [if_pos (by omega), Int.toNat_natCast] at h
  exact h
end Go.Proofs.YtnpfmoalgphkcaaGreatDoor

set_option linter.unusedVariables false
namespace Go.Proofs.YtnpfmoalgphkcaaGreatDoor
open Go Go.Proofs Go.RowKit Go.Lib

/-- The cells of the table of the days' names. -/
def dayCells : List Value := [.string (ba (dayS 0)), .string (ba (dayS 1)), .string (ba (dayS 2)), .string (ba (dayS 3)), .string (ba (dayS 4)), .string (ba (dayS 5)), .string (ba (dayS 6))]
def Days (w : World) : Prop := ∀ (j : Nat) (v : Value), dayCells[j]? = some v → w.cell? ⟨2, j, none⟩ = some v
theorem Days.below {w w' : World} (h : Days w) {B : Nat} (hb : Below B w w') (hB : 9 < B) : Days w' :=
  fun j v hj => (hb.cell (p := ⟨2, j, none⟩) (by show 2 < B; omega)).trans (h j v hj)
def DayEntry (AR : Array Value) : Prop := ∀ k, k < 7 → ∃ T : ByteArray, lst T = dayS k ∧ ∀ w, (Instr.index 112 (Value.agg AR) (Value.int IntKind.i64 (k : Int))).run Tryz.prog w = .ok (Value.string T) w
theorem day_idx : DayEntry dayCells.toArray := by
  intro k hk
  rcases (show k = 0 ∨ k = 1 ∨ k = 2 ∨ k = 3 ∨ k = 4 ∨ k = 5 ∨ k = 6 by omega) with rfl | rfl | rfl | rfl | rfl | rfl | rfl
  · exact ⟨ba (dayS 0), rfl, fun w => by kernel_rfl⟩
  · exact ⟨ba (dayS 1), rfl, fun w => by kernel_rfl⟩
  · exact ⟨ba (dayS 2), rfl, fun w => by kernel_rfl⟩
  · exact ⟨ba (dayS 3), rfl, fun w => by kernel_rfl⟩
  · exact ⟨ba (dayS 4), rfl, fun w => by kernel_rfl⟩
  · exact ⟨ba (dayS 5), rfl, fun w => by kernel_rfl⟩
  · exact ⟨ba (dayS 6), rfl, fun w => by kernel_rfl⟩
theorem load_days {w : World} (hT : Days w) : ∃ L : List Value, Hid (DayEntry L.toArray) ∧ w.rangeAt 2 0 L ∧ (Tryz.prog.info? 112).map (·.size) = some L.length :=
  ⟨dayCells, hid day_idx, fun j v h => by rw [Nat.zero_add]; exact hT j v h, by kernel_rfl⟩
def dayR (x : Str) : Nat × Bool := match dayK x with | some k => (k, true) | none => (0, false)

set_option maxHeartbeats 4000000 in
set_option maxRecDepth 100000 in
theorem dayOf_any (s : ByteArray) (w : World) (hT : Days w) :
    Calls Tryz.prog 109 #[.string s] w fun e w' => e = .returned (.tuple #[.int .i64 ((dayR (lst s)).1 : Nat), .bool (dayR (lst s)).2]) ∧ Below w.heap.size w w' := by
  obtain ⟨R, hR⟩ : ∃ R, dayR (lst s) = R := ⟨_, rfl⟩
  have HR := hid hR
  obtain ⟨L, hX, hL1, hL2⟩ := load_days hT
  have HL1 := hid hL1
  have HL2 := hid hL2
  clear hL1 hL2
  rw [hR]
  clear hR hT
  go_enter Tryz.func109, Tryz.ntmps109
  go_wp2_with (refine wpList_load_mid rfl 112 _ rfl 2 0 rfl L _ HL1.out Tryz.underlying112 rfl HL2.out ?_)
  generalize L.toArray = AR at hX ⊢
  clear HL1 HL2
  go_loopw [7] (fun iv wr => ∃ k : Nat, iv = .int .i64 (k : Int) ∧ k ≤ 7 ∧ Hid (∀ i, i < k → dayS i ≠ lst s) ∧ Hid (Below w.heap.size w wr)) (fun iv _ => 7 - (RowKit.intOf iv).toNat)
  case atStart => exact ⟨0, rfl, by omega, hid (fun i hi => absurd hi (by omega)), hid (Below.refl _ _)⟩
  case round =>
    obtain ⟨k, rfl, hk, hne, hB⟩ := hrel
    by_cases hlt : k < 7
    · have hltz : (k : Int) < 7 := by omega
      obtain ⟨T, hTw, hix⟩ := hX.out k hlt
      have HTW := hid hTw
      clear hTw
      by_cases hw : lst T = lst s
      · have hr : R = (k, true) := by
          rw [← HR.out]
          unfold dayR
          rw [dayK_of hlt (HTW.out.symm.trans hw)]
        subst hr
        have he := toListEq hw
        clear hw HR
        go_wp2
        go_ret2
        exact ⟨rfl, hB.out⟩
      · have hnx : Hid (∀ i, i < k + 1 → dayS i ≠ lst s) := hid (fun i hi => by
          rcases Nat.lt_or_ge i k with h | h
          · exact hne.out i h
          · obtain rfl : i = k := by omega
            exact fun e => hw (HTW.out.trans e))
        have he := toListNe hw
        clear hw
        go_wp2
        go_roundw
        case rel => exact ⟨k + 1, by go_num, by omega, hnx, hid hB.out⟩
        case measure => simp [RowKit.intOf]; omega
    · obtain rfl : k = 7 := by omega
      have hr : R = (0, false) := by
        rw [← HR.out]
        unfold dayR
        rw [dayK_none hne.out]
      subst hr
      go_wp2
      go_ret2
      exact ⟨rfl, hB.out⟩

theorem indexByte_has (c : UInt8) (s : Str) : decide (0 ≤ Lib.indexByte s c) = has c s := by
  rw [indexByte_bef]
  cases has c s with
  | true => rw [if_pos rfl]; exact decide_eq_true (by omega)
  | false => rw [if_neg (by simp)]; rfl
/-- The set of weeks that a text names, in writing. -/
def setT (x : Str) : Str := if wThree x = true then wSet x else [97, 108, 108]
theorem words_set (x : Str) : wordsB x = decide (setT x ≠ [] ∧ has 32 (setT x) = false) := by
  unfold wordsB setT
  cases wThree x with
  | true => simp
  | false => simp; decide
theorem results_4 {fn : Func} {p q r u : Tmp} (h : fn.results = #[.tmp p, .tmp q, .tmp r, .tmp u]) (tmps : Array Value) (P : Program) (w : World) (va vb vc vd : Value)
    (ha : tmps.getD p undef = va) (hb : tmps.getD q undef = vb) (hc : tmps.getD r undef = vc) (hd : tmps.getD u undef = vd) : (results fn tmps).run P w = .ok (.tuple #[va, vb, vc, vd]) w := by
  rw [Array.getD_eq_getD_getElem?] at ha hb hc hd
  simp only [results, h]
  simp [ha, hb, hc, hd]
def WordsOut (x : Str) (w : World) (e : Ending) (w' : World) : Prop :=
  e = .returned (.tuple #[.string (ba (wDay x)), .string (ba (wSlots x)), .string (ba (setT x)), .bool (wordsB x)]) ∧ Below w.heap.size w w'
set_option maxHeartbeats 4000000 in
set_option maxRecDepth 100000 in
theorem cutWords_any (s : ByteArray) (hz : s.size ≤ 4611686018427387904) (w : World) : Calls Tryz.prog 108 #[.string s] w (WordsOut (lst s) w) := by
  have c1 := fun w => cut_any s 32 hz w
  have hRs := aft_small (s := s) 32 hz
  obtain ⟨A, hA⟩ : ∃ A, ba (bef 32 (lst s)) = A := ⟨_, rfl⟩
  obtain ⟨R, hR⟩ : ∃ R, ba (aft 32 (lst s)) = R := ⟨_, rfl⟩
  obtain ⟨two, h2⟩ : ∃ two, has 32 (lst s) = two := ⟨_, rfl⟩
  have lR : aft 32 (lst s) = lst R := by rw [← hR]; rfl
  rw [hR] at hRs
  have c2 := fun w => cut_any R 32 hRs w
  have hCs := aft_small (s := R) 32 hRs
  obtain ⟨S, hS⟩ : ∃ S, ba (bef 32 (lst R)) = S := ⟨_, rfl⟩
  obtain ⟨C, hC⟩ : ∃ C, ba (aft 32 (lst R)) = C := ⟨_, rfl⟩
  obtain ⟨three, h3⟩ : ∃ three, has 32 (lst R) = three := ⟨_, rfl⟩
  have lC : aft 32 (lst R) = lst C := by rw [← hC]; rfl
  unfold CutOut at c1 c2
  rw [hA, hR, h2] at c1
  rw [hS, hC, h3] at c2
  unfold WordsOut
  rw [words_set]
  unfold setT wDay wSlots wThree wSet
  rw [hA, lR, hS, h3, lC]
  have cK := fun w => Tryz.strings_Contains_one C 32 w
  have cK2 := fun w => Tryz.strings_Contains_one ⟨#[97, 108, 108]⟩ 32 w
  rw [show Lib.indexByte C.data.toList 32 = Lib.indexByte (lst C) 32 from rfl, indexByte_has] at cK
  rw [show decide (0 ≤ Lib.indexByte (⟨#[97, 108, 108]⟩ : ByteArray).data.toList 32) = false by decide] at cK2
  have C1 := hid c1
  have C2 := hid c2
  clear c1 c2 hRs hCs hA hR h2 lR hS hC h3 lC hz
  cases three with
  | false =>
    rw [if_neg (by simp), show decide (([97, 108, 108] : Str) ≠ [] ∧ has 32 [97, 108, 108] = false) = true by decide]
    go_enter Tryz.func108, Tryz.ntmps108
    go_wp2_with fail
    refine (C1.out _).mono ?_
    rintro e w1 ⟨rfl, q1, hq1⟩
    have HB1 : Hid (Below w.heap.size w w1) := hid (by rw [hq1]; exact below_drewN (Below.refl _ _) q1)
    clear hq1
    go_wp2_with fail
    refine (C2.out _).mono ?_
    rintro e w2 ⟨rfl, q2, hq2⟩
    have HB2 : Hid (Below w.heap.size w w2) := hid (by rw [hq2]; exact below_drewN HB1.out q2)
    clear hq2
    go_wp2_with fail
    refine (cK2 _).mono ?_
    rintro e w3 ⟨rfl, rfl⟩
    go_wp2
    refine bodyPost_ret (v := .tuple #[.string A, .string S, .string (ba [97, 108, 108]), .bool true]) (results_4 rfl _ _ _ _ _ _ _ rfl rfl rfl rfl) rfl ?_
    exact ⟨rfl, HB2.out⟩
  | true =>
    rw [if_pos rfl, ba_lst]
    by_cases h0 : 0 < C.size
    · obtain ⟨x1, x2, x3, x4⟩ := str_no h0
      rw [show decide (lst C ≠ [] ∧ has 32 (lst C) = false) = !(has 32 (lst C)) by
        have := lst_ne h0
        cases has 32 (lst C) <;> simp [this]]
      generalize has 32 (lst C) = H at cK ⊢
      clear h0
      go_enter Tryz.func108, Tryz.ntmps108
      go_wp2_with fail
      refine (C1.out _).mono ?_
      rintro e w1 ⟨rfl, q1, hq1⟩
      have HB1 : Hid (Below w.heap.size w w1) := hid (by rw [hq1]; exact below_drewN (Below.refl _ _) q1)
      clear hq1
      go_wp2_with fail
      refine (C2.out _).mono ?_
      rintro e w2 ⟨rfl, q2, hq2⟩
      have HB2 : Hid (Below w.heap.size w w2) := hid (by rw [hq2]; exact below_drewN HB1.out q2)
      clear hq2
      go_wp2_with fail
      refine (cK _).mono ?_
      rintro e w3 ⟨rfl, rfl⟩
      go_wp2
      refine bodyPost_ret (v := .tuple #[.string A, .string S, .string C, .bool (!H)]) (results_4 rfl _ _ _ _ _ _ _ rfl rfl rfl rfl) rfl ?_
      exact ⟨rfl, HB2.out⟩
    · obtain ⟨x1, x2, x3, x4⟩ := str_yes h0
      rw [decide_eq_false (fun h => h.1 (lst_nil h0))]
      clear h0
      go_enter Tryz.func108, Tryz.ntmps108
      go_wp2_with fail
      refine (C1.out _).mono ?_
      rintro e w1 ⟨rfl, q1, hq1⟩
      have HB1 : Hid (Below w.heap.size w w1) := hid (by rw [hq1]; exact below_drewN (Below.refl _ _) q1)
      clear hq1
      go_wp2_with fail
      refine (C2.out _).mono ?_
      rintro e w2 ⟨rfl, q2, hq2⟩
      have HB2 : Hid (Below w.heap.size w w2) := hid (by rw [hq2]; exact below_drewN HB1.out q2)
      clear hq2
      go_wp2
      refine bodyPost_ret (v := .tuple #[.string A, .string S, .string C, .bool false]) (results_4 rfl _ _ _ _ _ _ _ rfl rfl rfl rfl) rfl ?_
      exact ⟨rfl, HB2.out⟩
end Go.Proofs.YtnpfmoalgphkcaaGreatDoor

