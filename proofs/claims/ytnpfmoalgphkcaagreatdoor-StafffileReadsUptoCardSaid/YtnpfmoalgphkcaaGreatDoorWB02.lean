/-
  The reference's split and dots. Conditions: the string has at most 2^21 bytes.
  Parse of times by the specification. Conditions: the variables hold what their text lays; the string fits into memory.
-/
import Derived.Test.YtnpfmoalgphkcaaGreatDoorVA01
import Derived.Test.YtnpfmoalgphkcaaGreatDoorVA02
import Derived.Test.YtnpfmoalgphkcaaGreatDoorVA03
import Derived.Test.YtnpfmoalgphkcaaGreatDoorVA04
import Derived.Test.YtnpfmoalgphkcaaGreatDoorVA05
import Derived.Test.YtnpfmoalgphkcaaGreatDoorVA06
import Derived.Test.YtnpfmoalgphkcaaGreatDoorVA07
import Derived.Test.YtnpfmoalgphkcaaGreatDoorVA08
import Derived.Test.YtnpfmoalgphkcaaGreatDoorVA09
import Derived.Test.YtnpfmoalgphkcaaGreatDoorVA10
import Derived.Test.YtnpfmoalgphkcaaGreatDoorVA11
import Derived.Test.YtnpfmoalgphkcaaGreatDoorVA12
import Derived.Test.YtnpfmoalgphkcaaGreatDoorVA13
import Derived.Test.YtnpfmoalgphkcaaGreatDoorVA14
import Derived.Test.YtnpfmoalgphkcaaGreatDoorVA15
import Derived.Test.YtnpfmoalgphkcaaGreatDoorVA16
import Derived.Test.YtnpfmoalgphkcaaGreatDoorVA17
import Derived.Test.YtnpfmoalgphkcaaGreatDoorVA18
import Derived.Test.YtnpfmoalgphkcaaGreatDoorVA19
import Derived.Test.YtnpfmoalgphkcaaGreatDoorVA20
import Derived.Test.YtnpfmoalgphkcaaGreatDoorVA21
import Derived.Test.YtnpfmoalgphkcaaGreatDoorVA22
import Derived.Test.YtnpfmoalgphkcaaGreatDoorVA23
import Derived.Test.YtnpfmoalgphkcaaGreatDoorVA24
import Derived.Test.YtnpfmoalgphkcaaGreatDoorVA25
import Derived.Test.YtnpfmoalgphkcaaGreatDoorVA26
import Derived.Test.YtnpfmoalgphkcaaGreatDoorVA27
import Derived.Test.YtnpfmoalgphkcaaGreatDoorVA28
import Derived.Test.YtnpfmoalgphkcaaGreatDoorVA29
import Derived.Test.YtnpfmoalgphkcaaGreatDoorVA30
import Derived.Test.YtnpfmoalgphkcaaGreatDoorVA31
import Derived.Test.YtnpfmoalgphkcaaGreatDoorWA01
import Derived.Test.YtnpfmoalgphkcaaGreatDoorWA02
import Derived.Test.YtnpfmoalgphkcaaGreatDoorWA03
import Derived.Test.YtnpfmoalgphkcaaGreatDoorWB01
import Derived.RangeFuncNested
import Derived.RangeFuncBound
import Derived.RangeFuncCalls
import Derived.RangeFuncLeaves
import Derived.Shelf.Abstract
import Derived.Shelf.RegionOpen
import Derived.OwnWalkIn
import Derived.Lib.Bytealg
import Derived.Lib.ItoaNum
import Derived.Lib.Atoi
import Derived.Lib.SlTrimSet
import Derived.Test.YtnpfmoalgphkcaaGreatDoorProg
import Derived.WalkKit
import Derived.WalkSpells
import Derived.WalkLawsBesides
import Derived.Lib.Hide
import Derived.Deep.QuietTactic
import Derived.BigQuiet
import Derived.Laws.Rows
import Derived.OwnWalk
import Derived.Lib.BufferWrite
import Derived.Lib.UnsafeStr
import Derived.Laws.IdiomStrings
import Derived.Laws.BytesArg
import Derived.Laws.BytesString
import Derived.Shelf.Strings.Builder1
import Derived.Shelf.Strings.Builder2
import Derived.Shelf.Strings.OnBuilder
import Derived.Shelf.Strings.BuilderF
import Derived.Shelf.Strings.BuilderK
import Derived.Shelf.Strings.Builder2Cap
import Derived.Shelf.Strconv.Atoi
import Derived.Shelf.Strconv.Itoa0
import Derived.Shelf.Strconv.Itoa1
import Derived.Shelf.LaysM
import Derived.Shelf.Strconv.Itoa2
import Derived.Shelf.Strconv.Itoa3
import Derived.Shelf.Strconv.AtoiErrFast
import Derived.Shelf.Strconv.ParseIntEmpty
import Derived.Shelf.Strconv.AtoiFail
import Derived.Shelf.Strconv.Clone
import Derived.Shelf.Strconv.SyntaxError
import Derived.Shelf.LaysC
import Derived.Shelf.Strconv.ToError
import Derived.Shelf.Strconv.AtoiErr
import Derived.Shelf.Strings.Search1
import Derived.Shelf.Strings.Search2
import Derived.Shelf.Strings.Search3
import Derived.Shelf.Strings.Cut
import Derived.Shelf.Strings.Shaped
import Derived.Shelf.Strings.Prefix
import Derived.Shelf.Unicode.DecodeSlow
import Derived.Shelf.Strings.BuilderCap
import Derived.Shelf.Strings.SlTrimAscii
import Derived.Lib.AtoiErrMem
import Derived.Handy
import Derived.Laws.ResultCell
import Derived.RegionTactic
import Derived.Lib.Repeat
import Derived.Deep.RegionHeld3
import Derived.Laws.OwnMore
import Derived.Lib.SlicesS
import Derived.Lib.IndexLaws
import Derived.TacticsInMore
import Derived.LoopNIn
import Derived.LoopIn
import Derived.Laws.BitsAllLaws
import Derived.Laws.BitsLemmas
import Derived.Deep.MidRow
import Derived.Deep.RegionLaw
set_option linter.unusedVariables false
namespace Go.Proofs.YtnpfmoalgphkcaaGreatDoor.S3
open Go Go.Proofs Go.RowKit Go.Lib

theorem splitL_first : ∀ (l : Str) (i : Nat), l[i]? = some 59 → (∀ j, j < i → l[j]? ≠ some 59) → splitL l = l.take i :: splitL (l.drop (i + 1))
  | [], i, h, _ => by simp at h
  | c :: s, 0, h, _ => by
    have : c = 59 := by simpa using h
    subst this
    simp [splitL]
  | c :: s, i + 1, h, hn => by
    have h0 : c ≠ 59 := fun e => hn 0 (by omega) (by simp [e])
    have ih := splitL_first s i (by simpa using h) (fun j hj => by have := hn (j + 1) (by omega); simpa using this)
    simp [splitL, if_neg h0, ih]
theorem splitL_no : ∀ (l : Str), (∀ j, j < l.length → l[j]? ≠ some 59) → splitL l = [l]
  | [], _ => rfl
  | c :: s, h => by
    have h0 : c ≠ 59 := fun e => h 0 (by simp) (by simp [e])
    have ih := splitL_no s (fun j hj => by have := h (j + 1) (by simp; omega); simpa using this)
    simp [splitL, if_neg h0, ih]
/-- Between two rounds of split. -/
def SplitSt (l : Str) (done : List Str) (a i : Nat) : Prop :=
  (i ≤ l.length → a ≤ l.length ∧ splitL l = done ++ splitL (l.drop a) ∧ ∀ j, a ≤ j → j < i → l[j]? ≠ some 59) ∧ (i = l.length + 1 → done = splitL l)
theorem SplitSt.hit {l : Str} {done : List Str} {a i : Nat} (h : SplitSt l done a i) (hi : i < l.length) (ha : a ≤ i) (hx : l[i]? = some 59) : SplitSt l (done ++ [(l.take i).drop a]) (i + 1) (i + 1) := by
  obtain ⟨h1, h2, h3⟩ := h.1 (by omega)
  have e := splitL_first (l.drop a) (i - a) (by rw [List.getElem?_drop, show a + (i - a) = i by omega]; exact hx) (fun j hj => by rw [List.getElem?_drop]; exact h3 (a + j) (by omega) (by omega))
  rw [List.drop_drop, show a + (i - a + 1) = i + 1 by omega] at e
  refine ⟨fun _ => ⟨by omega, ?_, fun j h1 h2 => by omega⟩, fun h => by omega⟩
  rw [h2, e, List.drop_take]
  simp
theorem SplitSt.miss {l : Str} {done : List Str} {a i : Nat} (h : SplitSt l done a i) (hi : i < l.length) (hx : l[i]? ≠ some 59) : SplitSt l done a (i + 1) := by
  obtain ⟨h1, h2, h3⟩ := h.1 (by omega)
  refine ⟨fun _ => ⟨h1, h2, fun j hj1 hj2 => ?_⟩, fun h => by omega⟩
  rcases Nat.lt_or_ge j i with hji | hji
  · exact h3 j hj1 hji
  · obtain rfl : j = i := by omega
    exact hx
theorem SplitSt.last {l : Str} {done : List Str} {a : Nat} (h : SplitSt l done a l.length) : SplitSt l (done ++ [(l.take l.length).drop a]) (l.length + 1) (l.length + 1) := by
  obtain ⟨h1, h2, h3⟩ := h.1 (Nat.le_refl _)
  have e := splitL_no (l.drop a) (fun j hj => by
    rw [List.getElem?_drop]
    simp at hj
    exact h3 (a + j) (by omega) (by omega))
  refine ⟨fun h => by omega, fun _ => ?_⟩
  rw [h2, e, List.take_length]

set_option maxHeartbeats 4000000 in
set_option maxRecDepth 100000 in
theorem split_any (s : ByteArray) (hs : s.size ≤ 2097152) (w : World) : Calls Tryz.prog 112 #[.string s] w (RowOut (splitL (lst s)) w) := by
  obtain ⟨i9, hi9, hz9, hsi9, hby9⟩ := info_parts infoStr
  have hlen : (lst s).length = s.size := (Lib.size_eq s).symm
  go_enter Tryz.func112, Tryz.ntmps112
  go_wp2
  go_loopw [3, 4, 5] (fun v av iv wr => ∃ (done : List Str) (a i : Nat), av = .int .i64 (a : Int) ∧ iv = .int .i64 (i : Int) ∧ i ≤ s.size + 1 ∧ (i ≤ s.size → a ≤ i) ∧ StrRow wr w.heap.size v done ∧ done.length ≤ i ∧ Hid (SplitSt (lst s) done a i) ∧ Hid (Below w.heap.size w wr)) (fun _ _ iv _ => s.size + 1 - (RowKit.intOf iv).toNat)
  case atStart => exact ⟨[], 0, 0, rfl, rfl, by omega, fun _ => by omega, World.ownsRow_nil _ _ _ _, by simp, hid ⟨fun _ => ⟨by omega, by simp, fun j h1 h2 => by omega⟩, fun h => by omega⟩, hid (Below.refl _ _)⟩
  case round =>
    obtain ⟨done, a, i, rfl, rfl, hi, hai, hrow, hdl, hst, hB⟩ := hrel
    have HRow := hid hrow
    clear hrow
    by_cases hle : i ≤ s.size
    · have hlez : (i : Int) ≤ (s.size : Int) := by omega
      have ha := hai hle
      have haz : (a : Int) ≤ (i : Int) := by omega
      have e1 : IntKind.i64.wrap ((i : Int) + 1) = (i : Int) + 1 := IntWalk.i64_in _ (by omega)
      obtain ⟨X, hX⟩ : ∃ X, s.extract a i = X := ⟨_, rfl⟩
      have lX : lst X = ((lst s).take i).drop a := by rw [← hX, lst_extract]
      have HC3 : Hid (done.length + 1 ≤ maxLen) := by unfold maxLen; exact hid (by omega)
      have HC4 : Hid ((done.length + 1) * 16 ≤ 140737488355328) := hid (by omega)
      have HC5 : Hid (∀ o : Obj, w.heap.size ≤ (wr.alloc o).heap.size) := hid (fun o => by have := hB.out.size; simp; omega)
      have three : (i = s.size) ∨ (∃ h : i < s.size, s[i]'h = 59) ∨ (∃ h : i < s.size, s[i]'h ≠ 59) := by
        rcases Nat.lt_or_ge i s.size with h | h
        · by_cases hx : s[i]'h = 59
          · exact .inr (.inl ⟨h, hx⟩)
          · exact .inr (.inr ⟨h, hx⟩)
        · exact .inl (by omega)
      have fin : ∀ (hst2 : SplitSt (lst s) (done ++ [lst X]) (i + 1) (i + 1)), True := fun _ => trivial
      clear fin
      rcases three with he | ⟨hlt, hx⟩ | ⟨hlt, hx⟩
      · have hez : ((i : Int) == (s.size : Int)) = true := by simp [he]
        have hst2 := hid (show SplitSt (lst s) (done ++ [lst X]) (i + 1) (i + 1) by
          have h := hst.out
          rw [he, ← hlen] at h
          have h2 := h.last
          rw [lX, he, ← hlen]
          exact h2)
        clear lX he hst
        go_wp2_with (first | (at_builtin; refine wpList_append_own _ rfl _ _ 58 rfl w.heap.size 9 i9 (.string ⟨#[]⟩) 1 16 Tryz.underlying58 hi9 hz9 hsi9 hby9 rfl (by decide) _ done.length (strVals done) rfl (World.ownsRow.alloc HRow.out _) ⟨wr.heap.size, 0, none⟩ 1 1 [.string X] rfl rfl (by rw [← hX]; exact one_new _ _ _) (one_str _) HC3.out HC4.out (HC5.out _) ?_))
        intro v' w6 hown' hgrow _
        have hg' := grownBy_of_alloc hgrow
        have hb56 : Below w.heap.size wr w6 := (Below.refl _ wr).grown hg' hB.out.size (fun k hk => (World.ownsRow.lt HRow.out k hk).1)
        have HB6 := hid (hB.out.trans hb56)
        have HRow6 := hid hown'
        clear hown' hgrow hg' hb56
        go_wp2
        go_roundw
        case rel =>
          refine ⟨done ++ [lst X], i + 1, i + 1, by go_num, by go_num, by omega, fun _ => Nat.le_refl _, ?_, by simp; omega, hst2, HB6⟩
          unfold StrRow
          rw [strVals_app, List.length_append]
          have e : strVals [lst X] = [.string X] := by show [strV (lst X)] = _; rw [strV_lst]
          rw [e]
          exact HRow6.out
        case measure => simp [RowKit.intOf]; omega
      · have hez : ((i : Int) == (s.size : Int)) = false := by simp; omega
        have hxz : (((s[i]'hlt).toNat : Int) == 59) = true := by rw [hx]; rfl
        have hg : (lst s)[i]? = some 59 := by rw [lst_get s i hlt, hx]
        have hst2 := hid (show SplitSt (lst s) (done ++ [lst X]) (i + 1) (i + 1) by
          rw [lX]
          exact hst.out.hit (by rw [hlen]; exact hlt) ha hg)
        obtain ⟨x, hxe⟩ : ∃ x, s[i]'hlt = x := ⟨_, rfl⟩
        rw [hxe] at hxz
        clear lX hg hst hx
        go_wp2_with (first | (at_builtin; refine wpList_append_own _ rfl _ _ 58 rfl w.heap.size 9 i9 (.string ⟨#[]⟩) 1 16 Tryz.underlying58 hi9 hz9 hsi9 hby9 rfl (by decide) _ done.length (strVals done) rfl (World.ownsRow.alloc HRow.out _) ⟨wr.heap.size, 0, none⟩ 1 1 [.string X] rfl rfl (by rw [← hX]; exact one_new _ _ _) (one_str _) HC3.out HC4.out (HC5.out _) ?_))
        intro v' w6 hown' hgrow _
        have hg' := grownBy_of_alloc hgrow
        have hb56 : Below w.heap.size wr w6 := (Below.refl _ wr).grown hg' hB.out.size (fun k hk => (World.ownsRow.lt HRow.out k hk).1)
        have HB6 := hid (hB.out.trans hb56)
        have HRow6 := hid hown'
        clear hown' hgrow hg' hb56
        go_wp2
        go_roundw
        case rel =>
          refine ⟨done ++ [lst X], i + 1, i + 1, by go_num, by go_num, by omega, fun _ => Nat.le_refl _, ?_, by simp; omega, hst2, HB6⟩
          unfold StrRow
          rw [strVals_app, List.length_append]
          have e : strVals [lst X] = [.string X] := by show [strV (lst X)] = _; rw [strV_lst]
          rw [e]
          exact HRow6.out
        case measure => simp [RowKit.intOf]; omega
      · have hez : ((i : Int) == (s.size : Int)) = false := by simp; omega
        have hg : (lst s)[i]? ≠ some 59 := by
          rw [lst_get s i hlt]
          intro e
          injection e with e
          exact hx e
        have hxz : (((s[i]'hlt).toNat : Int) == 59) = false := by
          rw [beq_eq_false_iff_ne]
          intro e
          exact hx (UInt8.toNat_inj.1 (by have : (59 : UInt8).toNat = 59 := rfl; omega))
        have hst2 := hid (hst.out.miss (by rw [hlen]; exact hlt) hg)
        obtain ⟨x, hxe⟩ : ∃ x, s[i]'hlt = x := ⟨_, rfl⟩
        rw [hxe] at hxz
        clear lX hg hst hx hX
        go_wp2
        go_roundw
        case rel => exact ⟨done, a, i + 1, rfl, by go_num, by omega, fun _ => by omega, HRow.out, by omega, hst2, hB⟩
        case measure => simp [RowKit.intOf]; omega
    · have hlez : ¬ (i : Int) ≤ (s.size : Int) := by omega
      have hd : done = splitL (lst s) := hst.out.2 (by omega)
      subst hd
      go_wp2
      go_ret
      exact ⟨⟨_, rfl, HRow.out⟩, hB.out⟩
end Go.Proofs.YtnpfmoalgphkcaaGreatDoor.S3

set_option linter.unusedVariables false
set_option linter.unusedSimpArgs false
namespace Go.Proofs.YtnpfmoalgphkcaaGreatDoor
open Go Go.Proofs Go.RowKit Go.Lib

theorem wdayI_some {x : Str} {k : Nat} (h : dayK x = some k) : wdayI x = (k : Int) := by unfold wdayI; rw [h]
theorem wdayI_none {x : Str} (h : dayK x = none) : wdayI x = -1 := by unfold wdayI; rw [h]
theorem body_bad {d s : Int} {n : Nat} {x : Str} (h : ¬ (wordsB x = true ∧ ¬ (fromN (wSlots x) = 0 ∨ toN (wSlots x) = 0))) : bodyT d s n x = ((0, 0, 0, 0), 4) := by
  unfold bodyT
  rw [if_neg h]
theorem body_day {d s : Int} {n : Nat} {x : Str} (h : dayK (wDay x) = none) : bodyT d s n x = ((0, 0, 0, 0), 4) := by
  unfold bodyT
  split
  · rw [h]
  · rfl
theorem body_good {d s : Int} {n : Nat} {x : Str} {k : Nat} (h : wordsB x = true) (h1 : fromN (wSlots x) ≠ 0) (h2 : toN (wSlots x) ≠ 0) (hd : dayK (wDay x) = some k) : bodyT d s n x = readT d s n x k := by
  unfold bodyT
  rw [if_pos ⟨h, by omega⟩, hd]
theorem words_two {x : Str} (h3 : wThree x = false) : wordsB x = true := decide_eq_true (fun h => by rw [h3] at h; simp at h)
theorem words_three {x : Str} (h4 : has 32 (wSet x) = false) (hc : wSet x ≠ []) : wordsB x = true := decide_eq_true (fun _ => ⟨hc, h4⟩)
theorem words_four {x : Str} (h4 : has 32 (wSet x) = true) : wordsB x = false := decide_eq_false (fun h => by
  cases h3 : wThree x with
  | false =>
    unfold wSet at h4
    unfold wThree at h3
    rw [(bef_miss 32 _ h3).2] at h4
    simp [has] at h4
  | true =>
    have := (h h3).2
    rw [h4] at this
    simp at this)
theorem words_nil {x : Str} (h3 : wThree x = true) (hc : wSet x = []) : wordsB x = false := decide_eq_false (fun h => (h h3).1 hc)
/-- A store elsewhere. -/
theorem PK.setT {w0 w : World} {d s b m : Int} {R : Nat} (h : PK w0 d s b m w) (hR : w0.heap.size + 2 ≤ R) (j : Nat) (v : Value) : PK w0 d s b m (w.setCell ⟨R, j, none⟩ v) := by
  have hx : ∀ o : Nat, (w.setCell ⟨R, j, none⟩ v).cell? ⟨w0.heap.size, o, none⟩ = w.cell? ⟨w0.heap.size, o, none⟩ := fun o => World.cell?_of_block (w := w) (Below.heap_setCell w ⟨R, j, none⟩ v _ (by show w0.heap.size ≠ R; omega))
  refine ⟨⟨(hx 0).trans h.x.c0, (hx 1).trans h.x.c1, (hx 2).trans h.x.c2, (hx 3).trans h.x.c3, ?_⟩, ?_, h.b.setCell (p := ⟨R, j, none⟩) (by show w0.heap.size ≤ R; omega) v⟩
  · have := h.x.lt
    simpa using this
  · exact (Below.heap_setCell w ⟨R, j, none⟩ v _ (by show w0.heap.size + 1 ≠ R; omega)).trans h.r
/-- Whether the text has the form. -/
def goodT (x : Str) : Prop := has 32 x = true ∧ has 32 (wSet x) = false ∧ (wThree x = false ∨ wThree x = true ∧ (wSet x == []) = false) ∧ ¬ wdayI (wDay x) < 0 ∧ fromN (wSlots x) ≠ 0 ∧ toN (wSlots x) ≠ 0
/-- Whether the text has the form; if it has, what it says. -/
inductive Way (d s : Int) (n : Nat) (x : Str) (two three four ce : Bool) (f g : Nat) (w : Int) (v : Nat) (e : Int) : (Int × Int × Int × Int) × Int → Prop
  | w1 : two = false → Way d s n x two three four ce f g w v e ((0, 0, 0, 0), 4)
  | w2 : two = true → four = true → Way d s n x two three four ce f g w v e ((0, 0, 0, 0), 4)
  | w3 : two = true → four = false → three = true → ce = true → Way d s n x two three four ce f g w v e ((0, 0, 0, 0), 4)
  | w4 : two = true → four = false → (three = false ∨ three = true ∧ ce = false) → w < 0 → Way d s n x two three four ce f g w v e ((0, 0, 0, 0), 4)
  | w5 : two = true → four = false → (three = false ∨ three = true ∧ ce = false) → ¬ w < 0 → f = 0 → Way d s n x two three four ce f g w v e ((0, 0, 0, 0), 4)
  | w6 : two = true → four = false → (three = false ∨ three = true ∧ ce = false) → ¬ w < 0 → f ≠ 0 → g = 0 → Way d s n x two three four ce f g w v e ((0, 0, 0, 0), 4)
  | g1 : two = true → four = false → (three = false ∨ three = true ∧ ce = false) → ¬ w < 0 → f ≠ 0 → g ≠ 0 → d ≤ w → Way d s n x two three four ce f g w v e ((0, 0, 0, 0), 14)
  | g2 : two = true → four = false → (three = false ∨ three = true ∧ ce = false) → ¬ w < 0 → f ≠ 0 → g ≠ 0 → ¬ d ≤ w → s < (g : Int) → Way d s n x two three four ce f g w v e ((0, 0, 0, 0), 14)
  | g3 : two = true → four = false → (three = false ∨ three = true ∧ ce = false) → ¬ w < 0 → f ≠ 0 → g ≠ 0 → ¬ d ≤ w → ¬ s < (g : Int) → g < f → Way d s n x two three four ce f g w v e ((0, 0, 0, 0), 14)
  | g4 : two = true → four = false → three = true → ce = false → ¬ w < 0 → f ≠ 0 → g ≠ 0 → ¬ d ≤ w → ¬ s < (g : Int) → ¬ g < f → e ≠ 0 → Way d s n x two three four ce f g w v e ((0, 0, 0, 0), e)
  | g5 : two = true → four = false → three = true → ce = false → ¬ w < 0 → f ≠ 0 → g ≠ 0 → ¬ d ≤ w → ¬ s < (g : Int) → ¬ g < f → e = 0 → Way d s n x two three four ce f g w v e (((v : Int), w, (f : Int) - 1, (g : Int) - (f : Int) + 1), 0)
  | g6 : two = true → four = false → three = false → ¬ w < 0 → f ≠ 0 → g ≠ 0 → ¬ d ≤ w → ¬ s < (g : Int) → ¬ g < f → Way d s n x two three four ce f g w v e (((2 : Int) ^ n - 1, w, (f : Int) - 1, (g : Int) - (f : Int) + 1), 0)
theorem ref_body {d s : Int} {n : Nat} {x : Str} {two three four ce : Bool} {f g : Nat} {w : Int} {v : Nat} {e : Int}
    (h2 : has 32 x = two) (h3 : wThree x = three) (h4 : has 32 (wSet x) = four) (hc : (wSet x == []) = ce) (hf : fromN (wSlots x) = f) (hg : toN (wSlots x) = g) (hw : wdayI (wDay x) = w) (hv : parseN (wSet x) n = (v, e)) :
    Way d s n x two three four ce f g w v e (bodyT d s n x) := by
  cases two with
  | false =>
    rw [body_bad (fun h => h.2 (.inl (slots_none h2)))]
    exact .w1 rfl
  | true =>
    cases four with
    | true =>
      rw [body_bad (fun h => by rw [words_four h4] at h; simp at h)]
      exact .w2 rfl rfl
    | false =>
      by_cases hbad : three = true ∧ ce = true
      · obtain ⟨rfl, rfl⟩ := hbad
        rw [body_bad (fun h => by rw [words_nil h3 (by simpa using hc)] at h; simp at h)]
        exact .w3 rfl rfl rfl rfl
      · have hok : three = false ∨ three = true ∧ ce = false := by cases three <;> cases ce <;> simp_all
        have hwb : wordsB x = true := by
          rcases hok with rfl | ⟨rfl, rfl⟩
          · exact words_two h3
          · exact words_three h4 (by simpa using hc)
        cases hd : dayK (wDay x) with
        | none =>
          rw [body_day hd]
          rw [wdayI_none hd] at hw
          exact .w4 rfl rfl hok (by omega)
        | some k =>
          rw [wdayI_some hd] at hw
          have hk7 := (dayK_some hd).1
          subst hw
          by_cases f0 : f = 0
          · rw [body_bad (fun h => h.2 (.inl (hf.trans f0)))]
            exact .w5 rfl rfl hok (by omega) f0
          · by_cases g0 : g = 0
            · rw [body_bad (fun h => h.2 (.inr (hg.trans g0)))]
              exact .w6 rfl rfl hok (by omega) f0 g0
            · rw [body_good hwb (by rw [hf]; exact f0) (by rw [hg]; exact g0) hd]
              unfold readT weeksT
              rw [hf, hg, h3, hv]
              by_cases a1 : d ≤ (k : Int)
              · rw [if_neg (by omega)]
                exact .g1 rfl rfl hok (by omega) f0 g0 a1
              · by_cases a2 : s < (g : Int)
                · rw [if_neg (by omega)]
                  exact .g2 rfl rfl hok (by omega) f0 g0 a1 a2
                · by_cases a3 : g < f
                  · rw [if_neg (fun h => h.2.1 a3)]
                    exact .g3 rfl rfl hok (by omega) f0 g0 a1 a2 a3
                  · rw [if_pos ⟨by omega, a3, by omega⟩]
                    rcases hok with rfl | ⟨rfl, rfl⟩
                    · rw [if_neg (show ¬ (false = true) by simp)]
                      rw [if_pos rfl]
                      have he : (((2 ^ n - 1 : Nat) : Nat) : Int) = (2 : Int) ^ n - 1 := by
                        have e : (2 : Int) ^ n = ((2 ^ n : Nat) : Int) := by rw [Int.natCast_pow]; rfl
                        have := Nat.two_pow_pos n
                        omega
                      dsimp only
                      rw [he]
                      exact .g6 rfl rfl rfl (by omega) f0 g0 a1 a2 a3
                    · rw [if_pos (show true = true from rfl)]
                      dsimp only
                      by_cases e0 : e = 0
                      · rw [if_pos e0]
                        exact .g5 rfl rfl rfl rfl (by omega) f0 g0 a1 a2 a3 e0
                      · rw [if_neg e0]
                        exact .g4 rfl rfl rfl rfl (by omega) f0 g0 a1 a2 a3 e0
end Go.Proofs.YtnpfmoalgphkcaaGreatDoor

