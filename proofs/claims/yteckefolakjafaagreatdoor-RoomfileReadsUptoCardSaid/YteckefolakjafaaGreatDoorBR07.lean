/-
  Grids and times of the week: plain mathematics. No program, no conditions.
  The words of a time's text, and the name of a day: cutWords and dayOf of timegrid. Conditions: the table of the days' names holds what its text lays.
  A range over a function whose iterator writes a variable that it has captured: the law of such a loop, in the form that weekset.Parse needs (one loop variable, a body that goes on or returns).
  The parts of a list: the library's strings.SplitSeq at ',' (its iterator, over whatever body the loop has). Condition: the string has fewer than 2^62 bytes.
-/
import Derived.Test.YteckefolakjafaaGreatDoorBR06
import Derived.Test.YteckefolakjafaaGreatDoorBR05
import Derived.RangeFuncNested
import Derived.RangeFuncBound
import Derived.RangeFuncCalls
import Derived.RangeFuncLeaves
import Derived.Shelf.Abstract
import Derived.Shelf.RegionOpen
import Derived.OwnWalkIn
import Derived.Lib.IndexLaws
import Derived.WalkKit
import Derived.TacticsInMore
import Derived.LoopNIn
import Derived.LoopIn
set_option linter.unusedVariables false
namespace Go.Proofs.YteckefolakjafaaGreatDoor
open Go Go.Lib

def GridP (d s b m : Int) : Prop := (1 ≤ d ∧ d ≤ 7) ∧ (1 ≤ s ∧ s ≤ 24) ∧ (0 ≤ b ∧ b ≤ 1439) ∧ (5 ≤ m ∧ m ≤ 120) ∧ b + s * m ≤ 1440
instance (d s b m : Int) : Decidable (GridP d s b m) := by unfold GridP; infer_instance
def gridB (d s b m : Int) : Bool := decide (GridP d s b m)
def frameB (d s b m n : Int) : Bool := decide (gridB d s b m = true ∧ 1 ≤ n ∧ n ≤ 20)
def SoundP (k y t l : Int) : Prop := validM k 20 = true ∧ (0 ≤ y ∧ y ≤ 6) ∧ 0 ≤ t ∧ 1 ≤ l ∧ t + l ≤ 24
instance (k y t l : Int) : Decidable (SoundP k y t l) := by unfold SoundP; infer_instance
def soundB (k y t l : Int) : Bool := decide (SoundP k y t l)
def fitsM (d s b m n k y t l : Int) : Int :=
  if frameB d s b m n = true then (if soundB k y t l = true ∧ validM k n = true ∧ y < d ∧ t + l ≤ s then 0 else 14) else 1
def meetB (k y t l k' y' t' l' : Int) : Bool := decide (soundB k y t l = true ∧ soundB k' y' t' l' = true ∧ bits .and .i64 k k' ≠ 0 ∧ y = y')
def gapI (t l t' l' : Int) : Int := max (max t t' - min (t + l) (t' + l')) (-1)
def betM (k y t l k' y' t' l' : Int) : Int × Bool := if meetB k y t l k' y' t' l' = true then (gapI t l t' l', true) else (0, false)
def overB (k y t l k' y' t' l' : Int) : Bool := (betM k y t l k' y' t' l').2 && decide ((betM k y t l k' y' t' l').1 < 0)
def befB (k y t l k' y' t' l' : Int) : Bool := decide (soundB k y t l = true ∧ soundB k' y' t' l' = true ∧ (y < y' ∨ y = y' ∧ t + l ≤ t'))
def clockM (d s b m q : Int) : Int × Int × Int := if gridB d s b m = true then (if 0 ≤ q ∧ q ≤ s then ((b + q * m).tdiv 60, (b + q * m).tmod 60, 0) else (0, 0, 3)) else (0, 0, 1)

/-! ### texts of times -/
def dayS : Nat → Str
  | 0 => [77, 111]
  | 1 => [84, 117]
  | 2 => [87, 101]
  | 3 => [84, 104]
  | 4 => [70, 114]
  | 5 => [83, 97]
  | _ => [83, 117]
def dayK (x : Str) : Option Nat := (List.range 7).find? fun k => decide (dayS k = x)
/-- The words of a time's text. -/
def wDay (x : Str) : Str := bef 32 x
def wSlots (x : Str) : Str := bef 32 (aft 32 x)
def wSet (x : Str) : Str := aft 32 (aft 32 x)
def wThree (x : Str) : Bool := has 32 (aft 32 x)
/-- The words are as they must be: two or three of them. -/
def wordsB (x : Str) : Bool := decide (wThree x = true → wSet x ≠ [] ∧ has 32 (wSet x) = false)
/-- The weeks that a text names. -/
def weeksT (x : Str) (n : Nat) : Nat × Int := if wThree x = true then parseN (wSet x) n else (2 ^ n - 1, 0)
def T4 := Int × Int × Int × Int
def readT (d s : Int) (n : Nat) (x : Str) (k : Nat) : (Int × Int × Int × Int) × Int :=
  if (k : Int) < d ∧ ¬ toN (wSlots x) < fromN (wSlots x) ∧ (toN (wSlots x) : Int) ≤ s then
    (if (weeksT x n).2 = 0 then ((((weeksT x n).1 : Nat), (k : Int), (fromN (wSlots x) : Int) - 1, (toN (wSlots x) : Int) - (fromN (wSlots x) : Int) + 1), 0) else ((0, 0, 0, 0), (weeksT x n).2))
  else ((0, 0, 0, 0), 14)
def bodyT (d s : Int) (n : Nat) (x : Str) : (Int × Int × Int × Int) × Int :=
  if wordsB x = true ∧ ¬ (fromN (wSlots x) = 0 ∨ toN (wSlots x) = 0) then (match dayK (wDay x) with | some k => readT d s n x k | none => ((0, 0, 0, 0), 4)) else ((0, 0, 0, 0), 4)
/-- What Parse hands back. -/
def timeM (d s b m n : Int) (x : Str) : (Int × Int × Int × Int) × Int := if frameB d s b m n = true then bodyT d s n.toNat x else ((0, 0, 0, 0), 1)
/-- The text of a time. -/
def timeT (n k y t l : Nat) : Str := dayS y ++ 32 :: itemT (t + 1) (t + l) ++ (if formN k n = [97, 108, 108] then [] else 32 :: formN k n)
/-- What Format hands back. -/
def textT (d s b m n k y t l : Int) : Str × Int := if fitsM d s b m n k y t l = 0 then (timeT n.toNat k.toNat y.toNat t.toNat l.toNat, 0) else ([], fitsM d s b m n k y t l)

/-! ### what is used of them -/
theorem grid_of {d s b m : Int} (h : gridB d s b m = true) : GridP d s b m := of_decide_eq_true h
theorem frame_of {d s b m n : Int} (h : frameB d s b m n = true) : GridP d s b m ∧ 1 ≤ n ∧ n ≤ 20 := by
  obtain ⟨h1, h2⟩ := of_decide_eq_true h
  exact ⟨grid_of h1, h2⟩
theorem sound_of {k y t l : Int} (h : soundB k y t l = true) : SoundP k y t l := of_decide_eq_true h
theorem dayK_some {x : Str} {k : Nat} (h : dayK x = some k) : k < 7 ∧ dayS k = x := by
  have h1 := List.find?_some h
  have h2 := List.mem_of_find?_eq_some h
  exact ⟨List.mem_range.1 h2, by simpa using h1⟩
theorem dayK_of {k : Nat} {x : Str} (hk : k < 7) (h : dayS k = x) : dayK x = some k := by
  subst h
  rcases (show k = 0 ∨ k = 1 ∨ k = 2 ∨ k = 3 ∨ k = 4 ∨ k = 5 ∨ k = 6 by omega) with rfl | rfl | rfl | rfl | rfl | rfl | rfl <;> decide
theorem dayK_none {x : Str} (h : ∀ i, i < 7 → dayS i ≠ x) : dayK x = none := by
  unfold dayK
  rw [List.find?_eq_none]
  intro k hk
  simp only [decide_eq_true_eq]
  exact h k (List.mem_range.1 hk)
theorem day_sign : ∀ k : Fin 7, has 32 (dayS k.val) = false := by decide
theorem nm_all : ∀ n : Fin 21, nmM 0 n.val = 2 ^ n.val - 1 := by decide +kernel
theorem parse_all {n : Nat} (h1 : 1 ≤ n) (h2 : n ≤ 20) : parseN [97, 108, 108] n = (2 ^ n - 1, 0) := by
  have hp : 2 ^ 1 ≤ 2 ^ n := pow_le h1
  have h0 := nm_all ⟨n, by omega⟩
  dsimp only at h0
  have h := parse_word (k := 0) (n := n) (by omega) h1 h2 (by rw [h0]; omega)
  rw [h0] at h
  unfold parseM at h
  rw [if_pos (by omega), Int.toNat_natCast] at h
  exact h
theorem slots_none {x : Str} (h : has 32 x = false) : fromN (wSlots x) = 0 := by
  unfold wSlots
  rw [(bef_miss 32 x h).2]
  rfl
end Go.Proofs.YteckefolakjafaaGreatDoor

set_option linter.unusedVariables false
namespace Go.Proofs.YteckefolakjafaaGreatDoor
open Go Go.Proofs Go.RowKit Go.Lib

/-- The cells of the table of the days' names. -/
def dayCells : List Value := [.string (ba (dayS 0)), .string (ba (dayS 1)), .string (ba (dayS 2)), .string (ba (dayS 3)), .string (ba (dayS 4)), .string (ba (dayS 5)), .string (ba (dayS 6))]
def Days (w : World) : Prop := ∀ (j : Nat) (v : Value), dayCells[j]? = some v → w.cell? ⟨1, j, none⟩ = some v
theorem Days.below {w w' : World} (h : Days w) {B : Nat} (hb : Below B w w') (hB : 6 < B) : Days w' :=
  fun j v hj => (hb.cell (p := ⟨1, j, none⟩) (by show 1 < B; omega)).trans (h j v hj)
def DayEntry (AR : Array Value) : Prop := ∀ k, k < 7 → ∃ T : ByteArray, lst T = dayS k ∧ ∀ w, (Instr.index 106 (Value.agg AR) (Value.int IntKind.i64 (k : Int))).run Tryz.prog w = .ok (Value.string T) w
theorem day_idx : DayEntry dayCells.toArray := by
  intro k hk
  rcases (show k = 0 ∨ k = 1 ∨ k = 2 ∨ k = 3 ∨ k = 4 ∨ k = 5 ∨ k = 6 by omega) with rfl | rfl | rfl | rfl | rfl | rfl | rfl
  · exact ⟨ba (dayS 0), rfl, fun w => by kernel_rfl⟩
  · exact ⟨ba (dayS 1), rfl, fun w => by kernel_rfl⟩
  · exact ⟨ba (dayS 2), rfl, fun w => by kernel_rfl⟩
  · exact ⟨ba (dayS 3), rfl, fun w => by kernel_rfl⟩
  · exact ⟨ba (dayS 4), rfl, fun w => by kernel_rfl⟩
  · exact ⟨ba (dayS 5), rfl, fun w => by kernel_rfl⟩
  · exact ⟨ba (dayS 6), rfl, fun w => by kernel_rfl⟩
theorem load_days {w : World} (hT : Days w) : ∃ L : List Value, Hid (DayEntry L.toArray) ∧ w.rangeAt 1 0 L ∧ (Tryz.prog.info? 106).map (·.size) = some L.length :=
  ⟨dayCells, hid day_idx, fun j v h => by rw [Nat.zero_add]; exact hT j v h, by kernel_rfl⟩
def dayR (x : Str) : Nat × Bool := match dayK x with | some k => (k, true) | none => (0, false)

set_option maxHeartbeats 4000000 in
set_option maxRecDepth 100000 in
theorem dayOf_any (s : ByteArray) (w : World) (hT : Days w) :
    Calls Tryz.prog 112 #[.string s] w fun e w' => e = .returned (.tuple #[.int .i64 ((dayR (lst s)).1 : Nat), .bool (dayR (lst s)).2]) ∧ Below w.heap.size w w' := by
  obtain ⟨R, hR⟩ : ∃ R, dayR (lst s) = R := ⟨_, rfl⟩
  have HR := hid hR
  obtain ⟨L, hX, hL1, hL2⟩ := load_days hT
  have HL1 := hid hL1
  have HL2 := hid hL2
  clear hL1 hL2
  rw [hR]
  clear hR hT
  go_enter Tryz.func112, Tryz.ntmps112
  go_wp2_with (refine wpList_load_mid rfl 106 _ rfl 1 0 rfl L _ HL1.out Tryz.underlying106 rfl HL2.out ?_)
  generalize L.toArray = AR at hX ⊢
  clear HL1 HL2
  go_loopw [7] (fun iv wr => ∃ k : Nat, iv = .int .i64 (k : Int) ∧ k ≤ 7 ∧ Hid (∀ i, i < k → dayS i ≠ lst s) ∧ Hid (Below w.heap.size w wr)) (fun iv _ => 7 - (RowKit.intOf iv).toNat)
  case atStart => exact ⟨0, rfl, by omega, hid (fun i hi => absurd hi (by omega)), hid (Below.refl _ _)⟩
  case round =>
    obtain ⟨k, rfl, hk, hne, hB⟩ := hrel
    by_cases hlt : k < 7
    · have hltz : (k : Int) < 7 := by omega
      obtain ⟨T, hTw, hix⟩ := hX.out k hlt
      have HTW := hid hTw
      clear hTw
      by_cases hw : lst T = lst s
      · have hr : R = (k, true) := by
          rw [← HR.out]
          unfold dayR
          rw [dayK_of hlt (HTW.out.symm.trans hw)]
        subst hr
        have he := toListEq hw
        clear hw HR
        go_wp2
        go_ret2
        exact ⟨rfl, hB.out⟩
      · have hnx : Hid (∀ i, i < k + 1 → dayS i ≠ lst s) := hid (fun i hi => by
          rcases Nat.lt_or_ge i k with h | h
          · exact hne.out i h
          · obtain rfl : i = k := by omega
            exact fun e => hw (HTW.out.trans e))
        have he := toListNe hw
        clear hw
        go_wp2
        go_roundw
        case rel => exact ⟨k + 1, by go_num, by omega, hnx, hid hB.out⟩
        case measure => simp [RowKit.intOf]; omega
    · obtain rfl : k = 7 := by omega
      have hr : R = (0, false) := by
        rw [← HR.out]
        unfold dayR
        rw [dayK_none hne.out]
      subst hr
      go_wp2
      go_ret2
      exact ⟨rfl, hB.out⟩

theorem indexByte_has (c : UInt8) (s : Str) : decide (0 ≤ Lib.indexByte s c) = has c s := by
  rw [indexByte_bef]
  cases has c s with
  | true => rw [if_pos rfl]; exact decide_eq_true (by omega)
  | false => rw [if_neg (by simp)]; rfl
/-- The set of weeks that a text names, in writing. -/
def setT (x : Str) : Str := if wThree x = true then wSet x else [97, 108, 108]
theorem words_set (x : Str) : wordsB x = decide (setT x ≠ [] ∧ has 32 (setT x) = false) := by
  unfold wordsB setT
  cases wThree x with
  | true => simp
  | false => simp; decide
theorem results_4 {fn : Func} {p q r u : Tmp} (h : fn.results = #[.tmp p, .tmp q, .tmp r, .tmp u]) (tmps : Array Value) (P : Program) (w : World) (va vb vc vd : Value)
    (ha : tmps.getD p undef = va) (hb : tmps.getD q undef = vb) (hc : tmps.getD r undef = vc) (hd : tmps.getD u undef = vd) : (results fn tmps).run P w = .ok (.tuple #[va, vb, vc, vd]) w := by
  rw [Array.getD_eq_getD_getElem?] at ha hb hc hd
  simp only [results, h]
  simp [ha, hb, hc, hd]
def WordsOut (x : Str) (w : World) (e : Ending) (w' : World) : Prop :=
  e = .returned (.tuple #[.string (ba (wDay x)), .string (ba (wSlots x)), .string (ba (setT x)), .bool (wordsB x)]) ∧ Below w.heap.size w w'
set_option maxHeartbeats 4000000 in
set_option maxRecDepth 100000 in
theorem cutWords_any (s : ByteArray) (hz : s.size ≤ 4611686018427387904) (w : World) : Calls Tryz.prog 111 #[.string s] w (WordsOut (lst s) w) := by
  have c1 := fun w => cut_any s 32 hz w
  have hRs := aft_small (s := s) 32 hz
  obtain ⟨A, hA⟩ : ∃ A, ba (bef 32 (lst s)) = A := ⟨_, rfl⟩
  obtain ⟨R, hR⟩ : ∃ R, ba (aft 32 (lst s)) = R := ⟨_, rfl⟩
  obtain ⟨two, h2⟩ : ∃ two, has 32 (lst s) = two := ⟨_, rfl⟩
  have lR : aft 32 (lst s) = lst R := by rw [← hR]; rfl
  rw [hR] at hRs
  have c2 := fun w => cut_any R 32 hRs w
  have hCs := aft_small (s := R) 32 hRs
  obtain ⟨S, hS⟩ : ∃ S, ba (bef 32 (lst R)) = S := ⟨_, rfl⟩
  obtain ⟨C, hC⟩ : ∃ C, ba (aft 32 (lst R)) = C := ⟨_, rfl⟩
  obtain ⟨three, h3⟩ : ∃ three, has 32 (lst R) = three := ⟨_, rfl⟩
  have lC : aft 32 (lst R) = lst C := by rw [← hC]; rfl
  unfold CutOut at c1 c2
  rw [hA, hR, h2] at c1
  rw [hS, hC, h3] at c2
  unfold WordsOut
  rw [words_set]
  unfold setT wDay wSlots wThree wSet
  rw [hA, lR, hS, h3, lC]
  have cK := fun w => Tryz.strings_Contains_one C 32 w
  have cK2 := fun w => Tryz.strings_Contains_one ⟨#[97, 108, 108]⟩ 32 w
  rw [show Lib.indexByte C.data.toList 32 = Lib.indexByte (lst C) 32 from rfl, indexByte_has] at cK
  rw [show decide (0 ≤ Lib.indexByte (⟨#[97, 108, 108]⟩ : ByteArray).data.toList 32) = false by decide] at cK2
  have C1 := hid c1
  have C2 := hid c2
  clear c1 c2 hRs hCs hA hR h2 lR hS hC h3 lC hz
  cases three with
  | false =>
    rw [if_neg (by simp), show decide (([97, 108, 108] : Str) ≠ [] ∧ has 32 [97, 108, 108] = false) = true by decide]
    go_enter Tryz.func111, Tryz.ntmps111
    go_wp2_with fail
    refine (C1.out _).mono ?_
    rintro e w1 ⟨rfl, q1, hq1⟩
    have HB1 : Hid (Below w.heap.size w w1) := hid (by rw [hq1]; exact below_drewN (Below.refl _ _) q1)
    clear hq1
    go_wp2_with fail
    refine (C2.out _).mono ?_
    rintro e w2 ⟨rfl, q2, hq2⟩
    have HB2 : Hid (Below w.heap.size w w2) := hid (by rw [hq2]; exact below_drewN HB1.out q2)
    clear hq2
    go_wp2_with fail
    refine (cK2 _).mono ?_
    rintro e w3 ⟨rfl, rfl⟩
    go_wp2
    refine bodyPost_ret (v := .tuple #[.string A, .string S, .string (ba [97, 108, 108]), .bool true]) (results_4 rfl _ _ _ _ _ _ _ rfl rfl rfl rfl) rfl ?_
    exact ⟨rfl, HB2.out⟩
  | true =>
    rw [if_pos rfl, ba_lst]
    by_cases h0 : 0 < C.size
    · obtain ⟨x1, x2, x3, x4⟩ := str_no h0
      rw [show decide (lst C ≠ [] ∧ has 32 (lst C) = false) = !(has 32 (lst C)) by
        have := lst_ne h0
        cases has 32 (lst C) <;> simp [this]]
      generalize has 32 (lst C) = H at cK ⊢
      clear h0
      go_enter Tryz.func111, Tryz.ntmps111
      go_wp2_with fail
      refine (C1.out _).mono ?_
      rintro e w1 ⟨rfl, q1, hq1⟩
      have HB1 : Hid (Below w.heap.size w w1) := hid (by rw [hq1]; exact below_drewN (Below.refl _ _) q1)
      clear hq1
      go_wp2_with fail
      refine (C2.out _).mono ?_
      rintro e w2 ⟨rfl, q2, hq2⟩
      have HB2 : Hid (Below w.heap.size w w2) := hid (by rw [hq2]; exact below_drewN HB1.out q2)
      clear hq2
      go_wp2_with fail
      refine (cK _).mono ?_
      rintro e w3 ⟨rfl, rfl⟩
      go_wp2
      refine bodyPost_ret (v := .tuple #[.string A, .string S, .string C, .bool (!H)]) (results_4 rfl _ _ _ _ _ _ _ rfl rfl rfl rfl) rfl ?_
      exact ⟨rfl, HB2.out⟩
    · obtain ⟨x1, x2, x3, x4⟩ := str_yes h0
      rw [decide_eq_false (fun h => h.1 (lst_nil h0))]
      clear h0
      go_enter Tryz.func111, Tryz.ntmps111
      go_wp2_with fail
      refine (C1.out _).mono ?_
      rintro e w1 ⟨rfl, q1, hq1⟩
      have HB1 : Hid (Below w.heap.size w w1) := hid (by rw [hq1]; exact below_drewN (Below.refl _ _) q1)
      clear hq1
      go_wp2_with fail
      refine (C2.out _).mono ?_
      rintro e w2 ⟨rfl, q2, hq2⟩
      have HB2 : Hid (Below w.heap.size w w2) := hid (by rw [hq2]; exact below_drewN HB1.out q2)
      clear hq2
      go_wp2
      refine bodyPost_ret (v := .tuple #[.string A, .string S, .string C, .bool false]) (results_4 rfl _ _ _ _ _ _ _ rfl rfl rfl rfl) rfl ?_
      exact ⟨rfl, HB2.out⟩
end Go.Proofs.YteckefolakjafaaGreatDoor

set_option linter.unusedVariables false
namespace Go.Proofs.YteckefolakjafaaGreatDoor
open Go Go.Proofs Go.RowKit Go.Lib

/-- A string comes to the loop's body: the round of loop l, from state s to state nx s x. -/
def Rounds {σ : Type} (n : Nat) (P : Program) (l : Nat) (Ok : σ → ByteArray → Prop) (nx : σ → ByteArray → σ) (J : σ → World → Prop) (Jx : World → Prop) : Prop :=
  ∀ s x W, J s W → Ok s x → YieldAt Fence.wide (n - 1) P l #[.string x] W fun e W' => (e = .returned (.bool true) ∧ J (nx s x) W') ∨ (e = .returned (.bool false) ∧ Jx W')
/-- The iterator's word: for whatever the rounds keep, so long as it lets the iterator write its own variable (block B). -/
def IterAt {σ : Type} (n : Nat) (P : Program) (gf : Nat) (lb : Array Value) (B : Nat) (Ok : σ → ByteArray → Prop) (nx : σ → ByteArray → σ) (Fin : σ → Prop) (I : σ → World → Prop) (s0 : σ) : Prop :=
  ∀ (l : Nat) (J : σ → World → Prop) (Jx : World → Prop) (W : World), (∀ s W, J s W → I s W) →
    (∀ s s' W v, J s W → I s' (W.setCell ⟨B, 0, none⟩ v) → J s' (W.setCell ⟨B, 0, none⟩ v)) →
    Rounds n P l Ok nx J Jx → J s0 W →
    CallsIn Fence.wide n P gf (#[.func (.yield l) #[] #[]] ++ lb) W fun e W' => (∃ v, e = .returned v) ∧ ((∃ s, Fin s ∧ J s W') ∨ Jx W')
/-- How a round's body may be left. -/
def bodyOut (B : Nat) (I' Ix : World → Prop) (W : World) : Exit → Act → World → Prop
  | .normal, _, W' => KeepsFrom B W W' ∧ I' W'
  | .ret, _, W' => KeepsFrom B W W' ∧ Ix W'
  | _, _, _ => False

set_option maxHeartbeats 1000000 in
theorem range_own {P : Program} {σ : Type} {g : Operand} {ps : Array Tmp} {assign body : Code} {Q : Exit → Act → World → Prop} {a : Act} {w : World} {n : Nat} (h1 : 1 ≤ n)
    {gf : Nat} {lb : Array Value} (hg : a.eval g = .func (.func gf) #[] lb) (eg : ∀ args w, (callFunc gf args).run P w = .ok (.enter gf args) w)
    (B : Nat) (hB : B < w.heap.size) (Ok : σ → ByteArray → Prop) (nx : σ → ByteArray → σ) (Fin : σ → Prop) (I : σ → World → Prop) (Ix : World → Prop) (s0 : σ)
    (hit : IterAt (n - 1) P gf lb B Ok nx Fin I s0) (hps : ps.size = 1)
    (hI : OwnFrom w.heap.size I) (hIx : OwnFrom w.heap.size (fun (_ : Unit) W => Ix W)) (h0 : I s0 w) (a₁ : ByteArray → Act)
    (hassign : ∀ (l : Nat) (x : ByteArray) (W : World) (K : Act → World → Prop), K (a₁ x) W →
      assign.wpIn (Fence.wide.inRound l) (n - 1 - 1) P (Exit.then K (fun _ _ _ => False)) { tmps := (ps.zip #[.string x]).foldl (fun t (p, v) => t.setIfInBounds p v) a.tmps, defers := [] } W)
    (hbody : ∀ (l : Nat) (s : σ) (x : ByteArray) (W : World), I s W → Ok s x → body.wpIn (Fence.wide.inRound l) (n - 1 - 1) P (bodyOut w.heap.size (I (nx s x)) Ix W) (a₁ x) W)
    (hdone : ∀ (D : Nat) (s : σ) (W : World), w.heap.size ≤ D → Fin s → I s W → W.heap[D]? = some (.deferred (some [])) → Q .normal { a with defers := { target := .collected D, args := #[] } :: a.defers } W)
    (hstop : ∀ (D : Nat) (W : World), w.heap.size ≤ D → Ix W → W.heap[D]? = some (.deferred (some [])) → Code.ret.wpIn Fence.wide n P Q { a with defers := { target := .collected D, args := #[] } :: a.defers } W) :
    (Code.rangeFunc g ps assign body).wpIn Fence.wide n P Q a w := by
  refine wpIn_rangeFunc fun fn hfn => ?_
  let L := w.heap.size + 1
  let rec_ : LoopState → Option Code → Loop := fun st pe => { state := st, pending := pe, fn, tmps := a.tmps, params := ps, assign, body, defers := w.heap.size }
  obtain ⟨rec, hrec⟩ : ∃ rec : LoopState → Option Code → Loop, rec = rec_ := ⟨_, rfl⟩
  obtain ⟨W1, hW1⟩ : ∃ W1, (w.alloc (.deferred (some []))).alloc (.loop (rec .ready none)) = W1 := ⟨_, rfl⟩
  have hL1 : W1.heap[w.heap.size + 1]? = some (.loop (rec .ready none)) := by
    rw [← hW1]; have := World.alloc_heap_new (w.alloc (.deferred (some []))) (.loop (rec .ready none)); rwa [World.size_alloc] at this
  have hD1 : W1.heap[w.heap.size]? = some (.deferred (some [])) := by
    rw [← hW1]; exact (Below.heap_alloc _ _ _ (by simp)).trans (World.alloc_heap_new w _)
  have hI1 : I s0 W1 := by rw [← hW1]; exact hI.alloc _ (hI.alloc _ h0)
  refine ⟨w.heap.size + 1, [{ target := .collected w.heap.size, args := #[] }], W1, { target := .fn (.func gf) lb, args := #[.func (.yield (w.heap.size + 1)) #[] #[]] }, W1, gf,
    #[.func (.yield (w.heap.size + 1)) #[] #[]] ++ lb, W1, ?_, ?_, ?_, ?_, fun _ => h1, ?_⟩
  · rw [← hW1, hrec]; exact run_enterLoop_outer _ _ _ _ _
  · simp only [resolve, hg]
    simp [go_sem]
  · intro _ _; trivial
  · simp [invoke, go_sem, eg]
  · refine (hit (w.heap.size + 1)
      (fun s W => I s W ∧ W.heap[w.heap.size + 1]? = some (.loop (rec .ready none)) ∧ W.heap[w.heap.size]? = some (.deferred (some [])))
      (fun W => Ix W ∧ W.heap[w.heap.size + 1]? = some (.loop (rec .done (some .ret))) ∧ W.heap[w.heap.size]? = some (.deferred (some [])))
      W1 (fun _ _ h => h.1)
      (fun s s' W v h h' => ⟨h', (Below.heap_setCell _ _ _ _ (by show w.heap.size + 1 ≠ B; omega)).trans h.2.1, (Below.heap_setCell _ _ _ _ (by show w.heap.size ≠ B; omega)).trans h.2.2⟩)
      ?_ ⟨hI1, hL1, hD1⟩).mono ?_
    · rintro s x W ⟨hi, hl, hk⟩ hok
      have hlt : w.heap.size + 1 < W.heap.size := (Array.getElem?_eq_some_iff.1 hl).1
      have hy := run_yield (P := P) (args := #[.string x]) hl (by rw [hrec]; exact hps.symm)
      rw [hrec] at hy
      refine ⟨fn, _, assign, body, hy, roundIn_of_wpIn trivial (hassign _ x W _ ⟨_, run_beginRound hl (by rw [hrec]), ?_⟩)⟩
      have hl2 : (W.putObj (w.heap.size + 1) (.loop { rec .ready none with state := .busy })).heap[w.heap.size + 1]? = some (.loop { rec .ready none with state := .busy }) := World.putObj_heap_same hlt
      have hk2 : (W.putObj (w.heap.size + 1) (.loop { rec .ready none with state := .busy })).heap[w.heap.size]? = some (.deferred (some [])) := (World.putObj_heap_other (by omega)).trans hk
      refine wpIn_mono (hbody _ s x _ (hI.putObj _ hi (by omega) hl rfl) hok) ?_
      rintro e a3 W3 hp
      cases e with
      | normal =>
        obtain ⟨hk3, hi3⟩ := hp
        have hl3 := hk3.same _ _ (by omega) hl2 rfl
        have hr := run_endRound (P := P) none hl3
        exact ⟨_, _, hr, .inl ⟨rfl, hI.putObj _ hi3 (by omega) hl3 rfl, by rw [World.putObj_heap_same (Array.getElem?_eq_some_iff.1 hl3).1, hrec]; rfl,
          (World.putObj_heap_other (by omega)).trans (hk3.same _ _ (Nat.le_refl _) hk2 rfl)⟩⟩
      | ret =>
        obtain ⟨hk3, hi3⟩ := hp
        have hl3 := hk3.same _ _ (by omega) hl2 rfl
        have hr := run_endRound (P := P) (some .ret) hl3
        exact ⟨_, _, hr, .inr ⟨rfl, hIx.putObj (s := ()) _ hi3 (by omega) hl3 rfl, by rw [World.putObj_heap_same (Array.getElem?_eq_some_iff.1 hl3).1, hrec]; rfl,
          (World.putObj_heap_other (by omega)).trans (hk3.same _ _ (Nat.le_refl _) hk2 rfl)⟩⟩
      | exit id => exact hp.elim
      | goto t => exact hp.elim
      | panic ch => exact hp.elim
      | outgrown => exact hp.elim
    · rintro e W2 ⟨⟨v, rfl⟩, (⟨s, hF, hi, hl, hk⟩ | ⟨hi, hl, hk⟩)⟩
      · exact ⟨none, _, by have := run_endLoop (P := P) hl (by rw [hrec]; simp [rec_]); rw [hrec] at this; exact this, hdone _ s _ (Nat.le_refl _) hF (hI.putObj _ hi (by omega) hl rfl) ((World.putObj_heap_other (by omega)).trans hk)⟩
      · exact ⟨some .ret, _, by have := run_endLoop (P := P) hl (by rw [hrec]; simp [rec_]); rw [hrec] at this; exact this, hstop _ _ (Nat.le_refl _) (hIx.putObj (s := ()) _ hi (by omega) hl rfl) ((World.putObj_heap_other (by omega)).trans hk)⟩

end Go.Proofs.YteckefolakjafaaGreatDoor

set_option linter.unusedVariables false
namespace Go.Proofs.YteckefolakjafaaGreatDoor
open Go Go.Proofs Go.RowKit Go.Lib
attribute [local go_sem] Oper.semAt_some

theorem splitL_ne (l : Str) : splitL l ≠ [] := by
  cases l with
  | nil => simp [splitL]
  | cons c s => simp only [splitL]; split <;> simp
theorem splitL_none : ∀ (l : Str), indexByte l 44 < 0 → splitL l = [l]
  | [], _ => rfl
  | c :: s, h => by
    unfold indexByte at h
    split at h
    · omega
    · rename_i hc
      have hge := indexByte_ge s 44
      have hs : indexByte s 44 < 0 := by
        split at h
        · rename_i he; have := beq_iff_eq.1 he; omega
        · omega
      simp only [splitL, splitL_none s hs]
      rw [if_neg (fun e => hc (beq_iff_eq.2 e))]
      rfl
theorem splitL_at : ∀ (l : Str) (i : Nat), indexByte l 44 = i → splitL l = l.take i :: splitL (l.drop (i + 1))
  | [], i, h => by simp [indexByte] at h
  | c :: s, i, h => by
    unfold indexByte at h
    split at h
    · rename_i hc
      obtain rfl : i = 0 := by omega
      simp [splitL, beq_iff_eq.1 hc]
    · rename_i hc
      have hge := indexByte_ge s 44
      split at h
      · omega
      · obtain ⟨j, rfl⟩ : ∃ j, i = j + 1 := ⟨i - 1, by
          rename_i he
          have : indexByte s 44 ≠ -1 := fun e => he (beq_iff_eq.2 e)
          omega⟩
        have ih := splitL_at s j (by omega)
        simp only [splitL, ih]
        rw [if_neg (fun e => hc (beq_iff_eq.2 e))]
        rfl
theorem index_lt (l : Str) (i : Nat) (h : indexByte l 44 = i) : i < l.length := by
  have := (indexByte_some h).1
  rcases Nat.lt_or_ge i l.length with h' | h'
  · exact h'
  · rw [List.getElem?_eq_none h'] at this; cases this

abbrev St := List Str × ByteArray
def cellLen (B : Nat) (w : World) : Nat := match w.cell? ⟨B, 0, none⟩ with | some (.string r) => r.size | _ => 0
theorem cellLen_of {B : Nat} {w : World} {r : ByteArray} (h : w.cell? ⟨B, 0, none⟩ = some (.string r)) : cellLen B w = r.size := by unfold cellLen; rw [h]
/-- What the iterator's variables hold. -/
structure SplitVars (B : Nat) (r : ByteArray) (W : World) : Prop where
  s : W.cell? ⟨B, 0, none⟩ = some (.string r)
  fz : W.frozen? ⟨B, 0, none⟩ = false
  sep : W.cell? ⟨B + 1, 0, none⟩ = some (.string ⟨#[44]⟩)
  save : W.cell? ⟨B + 2, 0, none⟩ = some (.int .i64 0)

set_option maxHeartbeats 4000000 in
set_option maxRecDepth 100000 in
theorem split_iter (n : Nat) (B : Nat) (s : ByteArray) (hs : s.size ≤ 4611686018427387904) (I : St → World → Prop) (hc : ∀ st W, I st W → SplitVars B st.2 W)
    (hset : ∀ st r W, I st W → I (st.1, r) (W.setCell ⟨B, 0, none⟩ (.string r))) :
    IterAt n Tryz.prog 150 #[.pointer (some ⟨B + 1, 0, none⟩), .pointer (some ⟨B, 0, none⟩), .pointer (some ⟨B + 2, 0, none⟩)] B
      (fun st x => ∃ rest, splitL (lst s) = st.1 ++ lst x :: rest) (fun st x => (st.1 ++ [lst x], st.2)) (fun st => st.1 = splitL (lst s)) I ([], s) := by
  intro l J Jx W hJI hJs hY h0
  refine callsIn_of_wp Tryz.func150 rfl trivial ?_ rfl
  simp only [Tryz.ntmps150, List.size_toArray, List.length_cons, List.length_nil, Nat.reduceAdd, Nat.reduceSub, Array.replicate_succ, Array.replicate_zero, List.push_toArray, List.append_toArray, List.nil_append, List.cons_append]
  obtain ⟨c1, c2, c3, c4⟩ := hc _ _ (hJI _ _ h0)
  gi_wp2
  gi_loopw [] (fun wr => ∃ (pre : List Str) (r : ByteArray), splitL (lst s) = pre ++ splitL (lst r) ∧ r.size ≤ s.size ∧ J (pre, r) wr) (fun wr => cellLen B wr)
  case atStart => exact ⟨[], s, rfl, Nat.le_refl _, h0⟩
  case round =>
    obtain ⟨pre, r, hsp, hrs, hJ⟩ := hrel
    obtain ⟨d1, d2, d3, d4⟩ := hc _ _ (hJI _ _ hJ)
    have hmu := cellLen_of d1
    have cI := Tryz.strings_Index_one r 44 wr
    have hge := indexByte_ge r.data.toList 44
    by_cases hneg : indexByte r.data.toList 44 < 0
    · obtain ⟨fn, tmps, assign, body, hy, hR⟩ := hY (pre, r) r wr hJ ⟨[], by rw [hsp, splitL_none _ hneg]⟩
      gi_wp2_with fail
      refine ⟨trivial, fun h => (by cases h), ?_⟩
      refine (callsIn_wide.2 cI).mono ?_
      rintro e w' ⟨rfl, rfl⟩
      gi_wp2
      refine ⟨fun h => (by cases h), ?_⟩
      refine hR.mono ?_
      rintro e W3 (⟨rfl, hJ3⟩ | ⟨rfl, hJ3⟩)
      · gi_wp2
        go_end0
        exact ⟨⟨_, rfl⟩, .inl ⟨_, by rw [hsp, splitL_none _ hneg], hJ3⟩⟩
      · gi_wp2
        go_end0
        exact ⟨⟨_, rfl⟩, .inr hJ3⟩
    · obtain ⟨i, hi⟩ : ∃ i : Nat, indexByte r.data.toList 44 = i := ⟨(indexByte r.data.toList 44).toNat, by omega⟩
      have hil : i < r.size := by rw [Lib.size_eq]; exact index_lt _ _ hi
      have hsa := splitL_at (lst r) i hi
      rw [hi] at cI
      clear hneg hge
      obtain ⟨fn, tmps, assign, body, hy, hR⟩ := hY (pre, r) (r.extract 0 i) wr hJ ⟨_, by rw [hsp, hsa, lst_extract]; rfl⟩
      gi_wp2_with fail
      refine ⟨trivial, fun h => (by cases h), ?_⟩
      refine (callsIn_wide.2 cI).mono ?_
      rintro e w' ⟨rfl, rfl⟩
      gi_wp2
      refine ⟨fun h => (by cases h), ?_⟩
      refine hR.mono ?_
      rintro e W3 (⟨rfl, hJ3⟩ | ⟨rfl, hJ3⟩)
      · obtain ⟨e1, e2, e3, e4⟩ := hc _ _ (hJI _ _ hJ3)
        dsimp only at e1
        gi_wp2
        obtain ⟨R, hR2⟩ : ∃ R : ByteArray, r.extract (i + 1) r.size = R := ⟨_, rfl⟩
        have hlR : lst R = (lst r).drop (i + 1) := by rw [← hR2, lst_extract, List.take_of_length_le (by rw [← Lib.size_eq]; exact Nat.le_refl _)]
        have hRs : R.size < r.size := by rw [← hR2, ByteArray.size_extract]; omega
        rw [hR2, hmu]
        have hset2 := hset _ R _ (hJI _ _ hJ3)
        refine ⟨⟨pre ++ [lst (r.extract 0 i)], R, ?_, by omega, hJs _ _ _ _ hJ3 hset2⟩, ?_⟩
        · rw [hsp, hsa, lst_extract, hlR]
          simp
        · rw [cellLen_of (hc _ _ hset2).s]
          exact hRs
      · gi_wp2
        refine bodyPost_ret (results_none rfl _ _ _) rfl ?_
        exact ⟨⟨_, rfl⟩, .inr hJ3⟩

end Go.Proofs.YteckefolakjafaaGreatDoor

