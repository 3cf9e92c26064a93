/-
  The reference's tail and number: a code's last number. Conditions: as the lemmas state.
  The reference's split and dots. Conditions: the string has at most 2^21 bytes.
  The reference's dots. Conditions: the string fits into memory.
  A number with a width: the law's wide. Conditions: the number is not negative and below 2^31; the width is at most 16.
  The reference's written: a number in decimal with a width. Conditions: the number is below ten to the seventeenth, the width at most 16.
  How many codes ahead are a range: the program's rangeAhead. Conditions: the library's variables hold what its text lays; the list is not empty, has at most 64 strings, and the first one has at most 16 bytes.
-/
import Derived.Test.YtpaejkhaiifgdaaGreatDoorGN01
import Derived.Test.YtpaejkhaiifgdaaGreatDoorGN02
import Derived.Test.YtpaejkhaiifgdaaGreatDoorGN03
import Derived.Test.YtpaejkhaiifgdaaGreatDoorGN04
import Derived.Test.YtpaejkhaiifgdaaGreatDoorGN05
import Derived.Test.YtpaejkhaiifgdaaGreatDoorGN06
import Derived.Test.YtpaejkhaiifgdaaGreatDoorGN07
import Derived.Test.YtpaejkhaiifgdaaGreatDoorGN08
import Derived.Test.YtpaejkhaiifgdaaGreatDoorGN09
import Derived.Test.YtpaejkhaiifgdaaGreatDoorGN10
import Derived.Test.YtpaejkhaiifgdaaGreatDoorGN11
import Derived.Test.YtpaejkhaiifgdaaGreatDoorGN12
import Derived.Test.YtpaejkhaiifgdaaGreatDoorGN13
import Derived.Test.YtpaejkhaiifgdaaGreatDoorGN14
import Derived.Test.YtpaejkhaiifgdaaGreatDoorGN15
import Derived.Test.YtpaejkhaiifgdaaGreatDoorGN16
import Derived.Test.YtpaejkhaiifgdaaGreatDoorGN17
import Derived.Test.YtpaejkhaiifgdaaGreatDoorGN18
import Derived.Test.YtpaejkhaiifgdaaGreatDoorEN01
import Derived.RangeFuncNested
import Derived.RangeFuncBound
import Derived.RangeFuncCalls
import Derived.RangeFuncLeaves
import Derived.Shelf.Abstract
import Derived.Shelf.RegionOpen
import Derived.OwnWalkIn
import Derived.Lib.Bytealg
import Derived.Lib.ItoaNum
import Derived.Lib.Atoi
import Derived.Lib.SlTrimSet
import Derived.Test.YtpaejkhaiifgdaaGreatDoorProg
import Derived.WalkKit
import Derived.WalkSpells
import Derived.WalkLawsBesides
import Derived.Lib.Hide
import Derived.Deep.QuietTactic
import Derived.BigQuiet
import Derived.Laws.Rows
import Derived.OwnWalk
import Derived.Lib.BufferWrite
import Derived.Lib.UnsafeStr
import Derived.Laws.IdiomStrings
import Derived.Laws.BytesArg
import Derived.Laws.BytesString
import Derived.Shelf.Strings.Builder1
import Derived.Shelf.Strings.Builder2
import Derived.Shelf.Strings.OnBuilder
import Derived.Shelf.Strings.Trim
import Derived.Shelf.Small.Utf8
import Derived.Shelf.Small.Strs
import Derived.Shelf.Strings.BuilderF
import Derived.Shelf.Strings.BuilderK
import Derived.Shelf.Strings.Builder2Cap
import Derived.Shelf.Strconv.Atoi
import Derived.Shelf.Strconv.Itoa0
import Derived.Shelf.Strconv.Itoa1
import Derived.Shelf.LaysM
import Derived.Shelf.Strconv.Itoa2
import Derived.Shelf.Strconv.Itoa3
import Derived.Shelf.Strconv.AtoiErrFast
import Derived.Shelf.Strconv.ParseIntEmpty
import Derived.Shelf.Strconv.AtoiFail
import Derived.Shelf.Strconv.Clone
import Derived.Shelf.Strconv.SyntaxError
import Derived.Shelf.LaysC
import Derived.Shelf.Strconv.ToError
import Derived.Shelf.Strconv.AtoiErr
import Derived.Shelf.Strings.Search1
import Derived.Shelf.Strings.Search2
import Derived.Shelf.Strings.Search3
import Derived.Shelf.Strings.Cut
import Derived.Shelf.Strings.Shaped
import Derived.Shelf.Strings.Prefix
import Derived.Shelf.Strings.Runes
import Derived.Shelf.Strings.AsciiSet
import Derived.Shelf.Bits.Mul64
import Derived.Shelf.Strings.Repeat
import Derived.Shelf.Unicode.DecodeSlow
import Derived.Shelf.Strings.BuilderCap
import Derived.Shelf.Slices.Turned
import Derived.Shelf.Strings.SlTrimAscii
import Derived.Lib.AtoiErrMem
import Derived.Handy
import Derived.Laws.ResultCell
import Derived.RegionTactic
import Derived.Lib.Repeat
import Derived.Deep.RegionHeld3
import Derived.Laws.OwnMore
import Derived.Lib.SlicesS
import Derived.Lib.IndexLaws
import Derived.TacticsInMore
import Derived.LoopNIn
import Derived.LoopIn
import Derived.RangeFuncBox
import Derived.Deep.DeepCutAuto
set_option linter.unusedVariables false
namespace Go.Proofs.YtpaejkhaiifgdaaGreatDoor.S3
open Go Go.Proofs Go.RowKit Go.Lib

theorem pre_dg (s : Str) (x : UInt8) (h0 : 0 < (preS s).length) (hx : s[(preS s).length - 1]? = some x) : dg x = false := by
  have hs := pre_split s
  have h2 : (preS s)[(preS s).length - 1]? = some x := by
    have : s[(preS s).length - 1]? = (preS s ++ lastS s)[(preS s).length - 1]? := by rw [hs]
    rw [this, List.getElem?_append_left (by omega)] at hx
    exact hx
  rw [← List.getLast?_eq_getElem?] at h2
  obtain ⟨ys, h3⟩ := List.getLast?_eq_some_iff.1 h2
  exact pre_end s _ x h3
theorem last_dg (s : Str) (j : Nat) (x : UInt8) (h : (preS s).length ≤ j) (hx : s[j]? = some x) : dg x = true := by
  refine last_dgs s x ?_
  refine List.mem_of_getElem? (i := j - (preS s).length) ?_
  unfold lastS
  rw [List.getElem?_drop, show (preS s).length + (j - (preS s).length) = j by omega]
  exact hx
theorem lst_get (s : ByteArray) (j : Nat) (h : j < s.size) : (lst s)[j]? = some (s[j]'h) := by
  have : j < s.data.size := h
  show s.data.toList[j]? = _
  rw [Array.getElem?_toList, Array.getElem?_eq_getElem this]
  rfl

set_option maxHeartbeats 4000000 in
set_option maxRecDepth 100000 in
theorem tail_any (s : ByteArray) (hs : s.size ≤ 16) (w : World) : Calls Tryz.prog 52 #[.string s] w fun e w' => e = .returned (.tuple #[.string (ba (preS (lst s))), .string (ba (lastS (lst s)))]) ∧ ∃ q, w' = w.drewN q := by
  have hsp := congrArg List.length (pre_split (lst s))
  rw [List.length_append, ← Lib.size_eq] at hsp
  have hD := fun j h h1 => last_dg (lst s) j (s[j]'h) h1 (lst_get s j h)
  have hF := fun h h1 => pre_dg (lst s) (s[(preS (lst s)).length - 1]'h) h1 (lst_get s _ h)
  have e1 : s.extract 0 (preS (lst s)).length = ba (preS (lst s)) := by
    rw [← ba_lst (s.extract 0 (preS (lst s)).length), lst_extract]
    have := congrArg (List.take (preS (lst s)).length) (pre_split (lst s))
    rw [List.take_left] at this
    rw [← this, List.drop_zero]
    rfl
  have e2 : s.extract (preS (lst s)).length s.size = ba (lastS (lst s)) := by
    rw [← ba_lst (s.extract (preS (lst s)).length s.size), lst_extract, List.take_of_length_le (by rw [← Lib.size_eq]; exact Nat.le_refl _)]
    rfl
  rw [← e1, ← e2]
  generalize (preS (lst s)).length = n at hsp hD hF e1 e2 ⊢
  have HD := hid hD
  have HF := hid hF
  have hns : n ≤ s.size := by omega
  clear hD hF e1 e2 hsp
  go_enter Tryz.func52, Tryz.ntmps52
  go_wp2
  go_loop [4] (fun i => ∃ k : Nat, n ≤ k ∧ k ≤ s.size ∧ i = .int .i64 (k : Int)) (fun i => (RowKit.intOf i).toNat)
  case atStart => exact ⟨s.size, hns, Nat.le_refl _, rfl⟩
  case round =>
    obtain ⟨k, hk1, hk2, rfl⟩ := hrel
    rcases Nat.eq_zero_or_pos k with rfl | hk0
    · obtain rfl : n = 0 := by omega
      go_wp2
      go_quiet (fail)
      go_wp2
      go_ret2
      exact ⟨by simp, _, rfl⟩
    · obtain ⟨m, rfl⟩ : ∃ m, k = m + 1 := ⟨k - 1, by omega⟩
      have hm : m < s.size := by omega
      have cD := digit_any (s[m]'hm)
      have hz : (0 : Int) < (m : Int) + 1 := by omega
      have hw : IntKind.i64.wrap ((m : Int) + 1 - 1) = (m : Int) := by rw [IntWalk.i64_in _ (by omega)]; omega
      have hw2 : ((m : Int) + 1 - 1) = (m : Int) := by omega
      by_cases hnm : n ≤ m
      · rw [HD.out m hm hnm] at cD
        go_wp2_with fail
        refine (cD _).mono ?_
        rintro e w1 ⟨rfl, rfl⟩
        go_wp2
        go_roundw
        case rel => exact ⟨m, hnm, by omega, rfl⟩
        case measure => simp [RowKit.intOf]
      · obtain rfl : n = m + 1 := by omega
        have hf : dg (s[m]'hm) = false := HF.out (show m + 1 - 1 < s.size from hm) (by omega)
        rw [hf] at cD
        have h1 : (m : Int) + 1 ≤ (s.size : Int) := by omega
        go_wp2_with fail
        refine (cD _).mono ?_
        rintro e w1 ⟨rfl, rfl⟩
        go_wp2
        go_quiet (fail)
        go_wp2
        go_ret2
        exact ⟨rfl, _, rfl⟩

theorem num_snoc (l : Str) (x : UInt8) : numN (l ++ [x]) = 10 * numN l + (x.toNat - 48) := by
  unfold numN
  rw [List.foldl_append]
  rfl
set_option maxHeartbeats 4000000 in
set_option maxRecDepth 100000 in
theorem number_any (s : ByteArray) (hs : s.size ≤ 16) (hd : Dgs (lst s)) (w : World) : Calls Tryz.prog 71 #[.string s] w fun e w' => e = .returned (.int .i64 (numN (lst s) : Int)) ∧ w = w' := by
  have hN : ∀ k (h : k < s.size), numN ((lst s).take (k + 1)) = 10 * numN ((lst s).take k) + ((s[k]'h).toNat - 48) ∧ 48 ≤ (s[k]'h).toNat ∧ (s[k]'h).toNat ≤ 57 := fun k h => by
    have hg := lst_get s k h
    have h1 := dg_val (hd _ (List.mem_of_getElem? hg))
    refine ⟨?_, h1⟩
    rw [← num_snoc, List.take_add_one, hg]
    rfl
  have hL : ∀ k, k ≤ s.size → numN ((lst s).take k) < 10000000000000001 := fun k h => by
    have h1 := numN_lt ((lst s).take k) (fun c hc => hd c (List.mem_of_mem_take hc))
    have h2 : 10 ^ ((lst s).take k).length ≤ 10 ^ 16 := Nat.pow_le_pow_right (by omega) (by simp; omega)
    have h3 : 10 ^ 16 = 10000000000000000 := by decide
    omega
  have hE : numN (lst s) = numN ((lst s).take s.size) := by rw [List.take_of_length_le (by rw [← Lib.size_eq]; exact Nat.le_refl _)]
  have HN := hid hN
  have HL := hid hL
  have HE := hid hE
  clear hN hL hE hd
  rw [HE.out]
  go_enter Tryz.func71, Tryz.ntmps71
  go_wp2
  go_loop [3, 4] (fun v i => ∃ k n : Nat, k ≤ s.size ∧ i = .int .i64 (k : Int) ∧ v = .int .i64 (n : Int) ∧ Hid (numN ((lst s).take k) = n)) (fun _ i => s.size - (RowKit.intOf i).toNat)
  case atStart => exact ⟨0, 0, Nat.zero_le _, rfl, rfl, hid rfl⟩
  case round =>
    obtain ⟨k, n, hk, rfl, rfl, hv⟩ := hrel
    by_cases hlt : k < s.size
    · obtain ⟨h1, h2, h3⟩ := HN.out k hlt
      have h4 := HL.out k hk
      rw [hv.out] at h1 h4
      have hz : (k : Int) < (s.size : Int) := by omega
      obtain ⟨x, hx⟩ : ∃ x, s[k]'hlt = x := ⟨_, rfl⟩
      rw [hx] at h1 h2 h3
      have q1 : IntKind.u8.wrap ((x.toNat : Int) - 48) = (x.toNat : Int) - 48 := by simp [IntKind.wrap, IntKind.bits, IntKind.signed]; omega
      have q2 : IntKind.i64.wrap ((x.toNat : Int) - 48) = (x.toNat : Int) - 48 := IntWalk.i64_in _ (by omega)
      have q3 : IntKind.i64.wrap (10 * (n : Int)) = 10 * (n : Int) := IntWalk.i64_in _ (by omega)
      have q4 : IntKind.i64.wrap (10 * (n : Int) + ((x.toNat : Int) - 48)) = 10 * (n : Int) + ((x.toNat : Int) - 48) := IntWalk.i64_in _ (by omega)
      have H1 := hid h1
      clear h1
      go_wp2
      go_roundw
      case rel => exact ⟨k + 1, 10 * n + (x.toNat - 48), by omega, by go_num, by congr 1; omega, H1⟩
      case measure => simp [RowKit.intOf]; omega
    · obtain rfl : k = s.size := by omega
      go_wp2
      go_ret
      exact ⟨by rw [hv.out]; rfl, rfl⟩
end Go.Proofs.YtpaejkhaiifgdaaGreatDoor.S3

set_option linter.unusedVariables false
namespace Go.Proofs.YtpaejkhaiifgdaaGreatDoor.S3
open Go Go.Proofs Go.RowKit Go.Lib

theorem splitL_first : ∀ (l : Str) (i : Nat), l[i]? = some 59 → (∀ j, j < i → l[j]? ≠ some 59) → splitL l = l.take i :: splitL (l.drop (i + 1))
  | [], i, h, _ => by simp at h
  | c :: s, 0, h, _ => by
    have : c = 59 := by simpa using h
    subst this
    simp [splitL]
  | c :: s, i + 1, h, hn => by
    have h0 : c ≠ 59 := fun e => hn 0 (by omega) (by simp [e])
    have ih := splitL_first s i (by simpa using h) (fun j hj => by have := hn (j + 1) (by omega); simpa using this)
    simp [splitL, if_neg h0, ih]
theorem splitL_no : ∀ (l : Str), (∀ j, j < l.length → l[j]? ≠ some 59) → splitL l = [l]
  | [], _ => rfl
  | c :: s, h => by
    have h0 : c ≠ 59 := fun e => h 0 (by simp) (by simp [e])
    have ih := splitL_no s (fun j hj => by have := h (j + 1) (by simp; omega); simpa using this)
    simp [splitL, if_neg h0, ih]
/-- Between two rounds of split. -/
def SplitSt (l : Str) (done : List Str) (a i : Nat) : Prop :=
  (i ≤ l.length → a ≤ l.length ∧ splitL l = done ++ splitL (l.drop a) ∧ ∀ j, a ≤ j → j < i → l[j]? ≠ some 59) ∧ (i = l.length + 1 → done = splitL l)
theorem SplitSt.hit {l : Str} {done : List Str} {a i : Nat} (h : SplitSt l done a i) (hi : i < l.length) (ha : a ≤ i) (hx : l[i]? = some 59) : SplitSt l (done ++ [(l.take i).drop a]) (i + 1) (i + 1) := by
  obtain ⟨h1, h2, h3⟩ := h.1 (by omega)
  have e := splitL_first (l.drop a) (i - a) (by rw [List.getElem?_drop, show a + (i - a) = i by omega]; exact hx) (fun j hj => by rw [List.getElem?_drop]; exact h3 (a + j) (by omega) (by omega))
  rw [List.drop_drop, show a + (i - a + 1) = i + 1 by omega] at e
  refine ⟨fun _ => ⟨by omega, ?_, fun j h1 h2 => by omega⟩, fun h => by omega⟩
  rw [h2, e, List.drop_take]
  simp
theorem SplitSt.miss {l : Str} {done : List Str} {a i : Nat} (h : SplitSt l done a i) (hi : i < l.length) (hx : l[i]? ≠ some 59) : SplitSt l done a (i + 1) := by
  obtain ⟨h1, h2, h3⟩ := h.1 (by omega)
  refine ⟨fun _ => ⟨h1, h2, fun j hj1 hj2 => ?_⟩, fun h => by omega⟩
  rcases Nat.lt_or_ge j i with hji | hji
  · exact h3 j hj1 hji
  · obtain rfl : j = i := by omega
    exact hx
theorem SplitSt.last {l : Str} {done : List Str} {a : Nat} (h : SplitSt l done a l.length) : SplitSt l (done ++ [(l.take l.length).drop a]) (l.length + 1) (l.length + 1) := by
  obtain ⟨h1, h2, h3⟩ := h.1 (Nat.le_refl _)
  have e := splitL_no (l.drop a) (fun j hj => by
    rw [List.getElem?_drop]
    simp at hj
    exact h3 (a + j) (by omega) (by omega))
  refine ⟨fun h => by omega, fun _ => ?_⟩
  rw [h2, e, List.take_length]

set_option maxHeartbeats 4000000 in
set_option maxRecDepth 100000 in
theorem split_any (s : ByteArray) (hs : s.size ≤ 2097152) (w : World) : Calls Tryz.prog 90 #[.string s] w (RowOut (splitL (lst s)) w) := by
  obtain ⟨i9, hi9, hz9, hsi9, hby9⟩ := info_parts infoStr
  have hlen : (lst s).length = s.size := (Lib.size_eq s).symm
  go_enter Tryz.func90, Tryz.ntmps90
  go_wp2
  go_loopw [3, 4, 5] (fun v av iv wr => ∃ (done : List Str) (a i : Nat), av = .int .i64 (a : Int) ∧ iv = .int .i64 (i : Int) ∧ i ≤ s.size + 1 ∧ (i ≤ s.size → a ≤ i) ∧ StrRow wr w.heap.size v done ∧ done.length ≤ i ∧ Hid (SplitSt (lst s) done a i) ∧ Hid (Below w.heap.size w wr)) (fun _ _ iv _ => s.size + 1 - (RowKit.intOf iv).toNat)
  case atStart => exact ⟨[], 0, 0, rfl, rfl, by omega, fun _ => by omega, World.ownsRow_nil _ _ _ _, by simp, hid ⟨fun _ => ⟨by omega, by simp, fun j h1 h2 => by omega⟩, fun h => by omega⟩, hid (Below.refl _ _)⟩
  case round =>
    obtain ⟨done, a, i, rfl, rfl, hi, hai, hrow, hdl, hst, hB⟩ := hrel
    have HRow := hid hrow
    clear hrow
    by_cases hle : i ≤ s.size
    · have hlez : (i : Int) ≤ (s.size : Int) := by omega
      have ha := hai hle
      have haz : (a : Int) ≤ (i : Int) := by omega
      have e1 : IntKind.i64.wrap ((i : Int) + 1) = (i : Int) + 1 := IntWalk.i64_in _ (by omega)
      obtain ⟨X, hX⟩ : ∃ X, s.extract a i = X := ⟨_, rfl⟩
      have lX : lst X = ((lst s).take i).drop a := by rw [← hX, lst_extract]
      have HC3 : Hid (done.length + 1 ≤ maxLen) := by unfold maxLen; exact hid (by omega)
      have HC4 : Hid ((done.length + 1) * 16 ≤ 140737488355328) := hid (by omega)
      have HC5 : Hid (∀ o : Obj, w.heap.size ≤ (wr.alloc o).heap.size) := hid (fun o => by have := hB.out.size; simp; omega)
      have three : (i = s.size) ∨ (∃ h : i < s.size, s[i]'h = 59) ∨ (∃ h : i < s.size, s[i]'h ≠ 59) := by
        rcases Nat.lt_or_ge i s.size with h | h
        · by_cases hx : s[i]'h = 59
          · exact .inr (.inl ⟨h, hx⟩)
          · exact .inr (.inr ⟨h, hx⟩)
        · exact .inl (by omega)
      have fin : ∀ (hst2 : SplitSt (lst s) (done ++ [lst X]) (i + 1) (i + 1)), True := fun _ => trivial
      clear fin
      rcases three with he | ⟨hlt, hx⟩ | ⟨hlt, hx⟩
      · have hez : ((i : Int) == (s.size : Int)) = true := by simp [he]
        have hst2 := hid (show SplitSt (lst s) (done ++ [lst X]) (i + 1) (i + 1) by
          have h := hst.out
          rw [he, ← hlen] at h
          have h2 := h.last
          rw [lX, he, ← hlen]
          exact h2)
        clear lX he hst
        go_wp2_with (first | (at_builtin; refine wpList_append_own _ rfl _ _ 39 rfl w.heap.size 9 i9 (.string ⟨#[]⟩) 1 16 Tryz.underlying39 hi9 hz9 hsi9 hby9 rfl (by decide) _ done.length (strVals done) rfl (World.ownsRow.alloc HRow.out _) ⟨wr.heap.size, 0, none⟩ 1 1 [.string X] rfl rfl (by rw [← hX]; exact one_new _ _ _) (one_str _) HC3.out HC4.out (HC5.out _) ?_))
        intro v' w6 hown' hgrow _
        have hg' := grownBy_of_alloc hgrow
        have hb56 : Below w.heap.size wr w6 := (Below.refl _ wr).grown hg' hB.out.size (fun k hk => (World.ownsRow.lt HRow.out k hk).1)
        have HB6 := hid (hB.out.trans hb56)
        have HRow6 := hid hown'
        clear hown' hgrow hg' hb56
        go_wp2
        go_roundw
        case rel =>
          refine ⟨done ++ [lst X], i + 1, i + 1, by go_num, by go_num, by omega, fun _ => Nat.le_refl _, ?_, by simp; omega, hst2, HB6⟩
          unfold StrRow
          rw [strVals_app, List.length_append]
          have e : strVals [lst X] = [.string X] := by show [strV (lst X)] = _; rw [strV_lst]
          rw [e]
          exact HRow6.out
        case measure => simp [RowKit.intOf]; omega
      · have hez : ((i : Int) == (s.size : Int)) = false := by simp; omega
        have hxz : (((s[i]'hlt).toNat : Int) == 59) = true := by rw [hx]; rfl
        have hg : (lst s)[i]? = some 59 := by rw [lst_get s i hlt, hx]
        have hst2 := hid (show SplitSt (lst s) (done ++ [lst X]) (i + 1) (i + 1) by
          rw [lX]
          exact hst.out.hit (by rw [hlen]; exact hlt) ha hg)
        obtain ⟨x, hxe⟩ : ∃ x, s[i]'hlt = x := ⟨_, rfl⟩
        rw [hxe] at hxz
        clear lX hg hst hx
        go_wp2_with (first | (at_builtin; refine wpList_append_own _ rfl _ _ 39 rfl w.heap.size 9 i9 (.string ⟨#[]⟩) 1 16 Tryz.underlying39 hi9 hz9 hsi9 hby9 rfl (by decide) _ done.length (strVals done) rfl (World.ownsRow.alloc HRow.out _) ⟨wr.heap.size, 0, none⟩ 1 1 [.string X] rfl rfl (by rw [← hX]; exact one_new _ _ _) (one_str _) HC3.out HC4.out (HC5.out _) ?_))
        intro v' w6 hown' hgrow _
        have hg' := grownBy_of_alloc hgrow
        have hb56 : Below w.heap.size wr w6 := (Below.refl _ wr).grown hg' hB.out.size (fun k hk => (World.ownsRow.lt HRow.out k hk).1)
        have HB6 := hid (hB.out.trans hb56)
        have HRow6 := hid hown'
        clear hown' hgrow hg' hb56
        go_wp2
        go_roundw
        case rel =>
          refine ⟨done ++ [lst X], i + 1, i + 1, by go_num, by go_num, by omega, fun _ => Nat.le_refl _, ?_, by simp; omega, hst2, HB6⟩
          unfold StrRow
          rw [strVals_app, List.length_append]
          have e : strVals [lst X] = [.string X] := by show [strV (lst X)] = _; rw [strV_lst]
          rw [e]
          exact HRow6.out
        case measure => simp [RowKit.intOf]; omega
      · have hez : ((i : Int) == (s.size : Int)) = false := by simp; omega
        have hg : (lst s)[i]? ≠ some 59 := by
          rw [lst_get s i hlt]
          intro e
          injection e with e
          exact hx e
        have hxz : (((s[i]'hlt).toNat : Int) == 59) = false := by
          rw [beq_eq_false_iff_ne]
          intro e
          exact hx (UInt8.toNat_inj.1 (by have : (59 : UInt8).toNat = 59 := rfl; omega))
        have hst2 := hid (hst.out.miss (by rw [hlen]; exact hlt) hg)
        obtain ⟨x, hxe⟩ : ∃ x, s[i]'hlt = x := ⟨_, rfl⟩
        rw [hxe] at hxz
        clear lX hg hst hx hX
        go_wp2
        go_roundw
        case rel => exact ⟨done, a, i + 1, rfl, by go_num, by omega, fun _ => by omega, HRow.out, by omega, hst2, hB⟩
        case measure => simp [RowKit.intOf]; omega
    · have hlez : ¬ (i : Int) ≤ (s.size : Int) := by omega
      have hd : done = splitL (lst s) := hst.out.2 (by omega)
      subst hd
      go_wp2
      go_ret
      exact ⟨⟨_, rfl, HRow.out⟩, hB.out⟩
end Go.Proofs.YtpaejkhaiifgdaaGreatDoor.S3

set_option linter.unusedVariables false
namespace Go.Proofs.YtpaejkhaiifgdaaGreatDoor.S3
open Go Go.Proofs Go.RowKit Go.Lib

theorem u8_46 {x : UInt8} : (x = 46 ∧ ((x.toNat : Int) == 46) = true) ∨ (x ≠ 46 ∧ ((x.toNat : Int) == 46) = false) := by
  by_cases h : x = 46
  · exact .inl ⟨h, by rw [h]; rfl⟩
  · refine .inr ⟨h, ?_⟩
    rw [beq_eq_false_iff_ne]
    intro e
    exact h (UInt8.toNat_inj.1 (by have : (46 : UInt8).toNat = 46 := rfl; omega))

set_option maxHeartbeats 4000000 in
set_option maxRecDepth 100000 in
theorem dots_any (s : ByteArray) (hs : s.size ≤ 4611686018427387904) (w : World) :
    Calls Tryz.prog 91 #[.string s] w fun e w' => (∃ n a : Int, e = .returned (.tuple #[.int .i64 n, .int .i64 a]) ∧ DotsAt (lst s) n a) ∧ w' = w := by
  have hlen : (lst s).length = s.size := (Lib.size_eq s).symm
  go_enter Tryz.func91, Tryz.ntmps91
  go_wp2
  go_loopw [4, 5, 6] (fun nv av iv wr => ∃ (n : Nat) (a : Int) (i : Nat), nv = .int .i64 (n : Int) ∧ av = .int .i64 a ∧ iv = .int .i64 (i : Int) ∧ i ≤ s.size ∧ n ≤ i ∧ Hid (DotsIn (lst s) n a i) ∧ Hid (wr = w)) (fun _ _ iv _ => s.size - (RowKit.intOf iv).toNat)
  case atStart => exact ⟨0, -1, 0, rfl, rfl, rfl, by omega, by omega, hid (DotsIn.start _), by trivial⟩
  case round =>
    obtain ⟨n, a, i, rfl, rfl, rfl, hi, hni, hd, hw⟩ := hrel
    obtain rfl : w = wr := hw.out.symm
    have e1 : IntKind.i64.wrap ((i : Int) + 1) = (i : Int) + 1 := IntWalk.i64_in _ (by omega)
    by_cases hlt : i + 1 < s.size
    · have hltz : (i : Int) + 1 < (s.size : Int) := by omega
      have hi0 : i < s.size := by omega
      have g0 := lst_get s i hi0
      have g1 := lst_get s (i + 1) hlt
      obtain ⟨x, hx⟩ : ∃ x, s[i]'hi0 = x := ⟨_, rfl⟩
      obtain ⟨y, hy⟩ : ∃ y, s[i + 1]'hlt = y := ⟨_, rfl⟩
      rw [hx] at g0
      rw [hy] at g1
      have G0 := hid g0
      have G1 := hid g1
      clear g0 g1
      have e2 : IntKind.i64.wrap ((n : Int) + 1) = (n : Int) + 1 := IntWalk.i64_in _ (by omega)
      have t1 : ((i : Int) + 1).toNat = i + 1 := by omega
      rcases u8_46 (x := x) with ⟨hx46, hxz⟩ | ⟨hx46, hxz⟩
      · rcases u8_46 (x := y) with ⟨hy46, hyz⟩ | ⟨hy46, hyz⟩
        · have hnx := hid (hd.out.hit (by rw [G0.out, hx46]) (by rw [G1.out, hy46]))
          clear hx46 hy46
          by_cases hn0 : n = 0
          · subst hn0
            have hnx2 : Hid (DotsIn (lst s) 1 (i : Int) (i + 2)) := hid (by have := hnx.out; simpa using this)
            clear hnx
            go_wp2
            go_roundw
            case rel => exact ⟨1, (i : Int), i + 2, rfl, rfl, by congr 1, by omega, by omega, hnx2, by trivial⟩
            case measure => simp [RowKit.intOf]; omega
          · have hnb : ((n : Int) == 0) = false := by simpa using hn0
            have hnx2 : Hid (DotsIn (lst s) (n + 1) a (i + 2)) := hid (by have := hnx.out; rwa [if_neg hn0] at this)
            clear hnx hn0
            go_wp2
            go_roundw
            case rel => exact ⟨n + 1, a, i + 2, by go_num, rfl, by congr 1, by omega, by omega, hnx2, by trivial⟩
            case measure => simp [RowKit.intOf]; omega
        · have hnx := hid (hd.out.miss G0.out G1.out (fun h => hy46 h.2))
          clear hx46 hy46
          go_wp2
          go_roundw
          case rel => exact ⟨n, a, i + 1, rfl, rfl, by go_num, by omega, by omega, hnx, by trivial⟩
          case measure => simp [RowKit.intOf]; omega
      · have hnx := hid (hd.out.miss G0.out G1.out (fun h => hx46 h.1))
        clear hx46
        go_wp2
        go_roundw
        case rel => exact ⟨n, a, i + 1, rfl, rfl, by go_num, by omega, by omega, hnx, by trivial⟩
        case measure => simp [RowKit.intOf]; omega
    · have hltz : ¬ (i : Int) + 1 < (s.size : Int) := by omega
      have hfin := hid (hd.out.done (by rw [hlen]; omega))
      go_wp2
      go_ret2
      exact ⟨⟨_, _, rfl, hfin.out⟩, rfl⟩
end Go.Proofs.YtpaejkhaiifgdaaGreatDoor.S3

set_option linter.unusedVariables false
namespace Go.Proofs.YtpaejkhaiifgdaaGreatDoor.S3
open Go Go.Proofs Go.RowKit Go.Lib

def one48 (d : Nat) : UInt8 := UInt8.ofNat (48 + d)
/-- Between two rounds of the first loop. -/
def WideAt (n u : Nat) (s : Str) : Prop := (s = [] ∧ u = n) ∨ (s ≠ [] ∧ ((u = 0 ∧ s = decDigits n) ∨ (0 < u ∧ decDigits u ++ s = decDigits n)))
theorem WideAt.step {n u : Nat} {s : Str} (h : WideAt n u s) (hg : 0 < u ∨ s = []) : WideAt n (u / 10) (one48 (u % 10) :: s) := by
  have hd : u % 10 < 10 := Nat.mod_lt _ (by omega)
  refine .inr ⟨by simp, ?_⟩
  by_cases hm : u / 10 = 0
  · have hu : u < 10 := by omega
    have hmod : u % 10 = u := Nat.mod_eq_of_lt hu
    refine .inl ⟨hm, ?_⟩
    rw [hmod]
    rcases h with ⟨rfl, rfl⟩ | ⟨hs, ⟨h0, _⟩ | ⟨h0, h1⟩⟩
    · rw [dec_small hu]; rfl
    · rcases hg with hg | hg
      · omega
      · exact absurd hg hs
    · rw [← h1, dec_small hu]; rfl
  · have hu : u = 10 * (u / 10) + u % 10 := by omega
    have hst : decDigits u = decDigits (u / 10) ++ [one48 (u % 10)] := by
      have := dec_step (u / 10) (u % 10) (by omega) hd
      rw [← hu] at this
      exact this
    refine .inr ⟨by omega, ?_⟩
    rcases h with ⟨rfl, rfl⟩ | ⟨hs, ⟨h0, _⟩ | ⟨h0, h1⟩⟩
    · rw [hst]
    · omega
    · rw [← h1, hst]; simp
theorem WideAt.done {n u : Nat} {s : Str} (h : WideAt n u s) (hg : ¬ (0 < u ∨ s = [])) : s = decDigits n := by
  rcases h with ⟨rfl, rfl⟩ | ⟨hs, ⟨h0, h1⟩ | ⟨h0, _⟩⟩
  · exact absurd (.inr rfl) hg
  · exact h1
  · exact absurd (.inl h0) hg

theorem WideAt.len {n u : Nat} {s : Str} (h : WideAt n u s) (hn : n < 2147483648) : s.length ≤ 10 := by
  have hl := dec_len n 10 (by omega) (by omega)
  rcases h with ⟨rfl, rfl⟩ | ⟨hs, ⟨h0, h1⟩ | ⟨h0, h1⟩⟩
  · simp
  · rw [h1]; exact hl
  · have := congrArg List.length h1
    rw [List.length_append] at this
    omega
end Go.Proofs.YtpaejkhaiifgdaaGreatDoor.S3

set_option linter.unusedVariables false
namespace Go.Proofs.YtpaejkhaiifgdaaGreatDoor.S3
open Go Go.Proofs Go.RowKit Go.Lib

theorem WideAt.short {n u : Nat} {s : Str} (h : WideAt n u s) : s.length ≤ (decDigits n).length := by
  rcases h with ⟨rfl, rfl⟩ | ⟨hs, ⟨h0, h1⟩ | ⟨h0, h1⟩⟩
  · simp
  · rw [h1]; exact Nat.le_refl _
  · have := congrArg List.length h1
    rw [List.length_append] at this
    omega
/-- A slice's length. -/
def vLen : Value → Nat | .slice _ n _ => n | _ => 0
def BRow (w : World) (B : Nat) (v : Value) (l : List UInt8) : Prop := w.ownsRow B 5 1 v l.length (byteCells l)
theorem byte_one (l : List UInt8) : ∀ u ∈ byteCells l, u.oneCell' = true := by
  intro u hu
  obtain ⟨x, _, rfl⟩ := List.mem_map.1 hu
  exact one_one .u8 (x.toNat : Int) _ (List.mem_singleton.2 rfl)
theorem one48_val (u : Nat) : ((one48 (u % 10)).toNat : Int) = 48 + (u : Int) % 10 := by
  have hd : u % 10 < 10 := Nat.mod_lt _ (by omega)
  unfold one48
  rw [ofNat_val hd]
  omega
theorem BRow.some {w : World} {B : Nat} {v : Value} {l : List UInt8} (h : BRow w B v l) (hl : l ≠ []) : ∃ g cap, v = .slice (some ⟨g, 0, none⟩) l.length cap ∧ B ≤ g ∧ ∀ j u, (byteCells l)[j]? = some u → w.cell? ((⟨g, 0, none⟩ : Addr).add j) = some u := by
  have h' := h
  rcases h.2 with ⟨_, h0⟩ | ⟨g, cap, cur, rfl, hB, _⟩
  · exact absurd (List.eq_nil_of_length_eq_zero h0) hl
  · exact ⟨g, cap, rfl, hB, World.ownsRow.cells h' rfl⟩
theorem new_byte (w : World) (B : Nat) (hB : B ≤ w.heap.size) (z : Value) : (w.alloc (.cells #[z] 5)).ownsRow B 5 1 (.slice (some ⟨w.heap.size, 0, none⟩) 1 1) 1 [z] :=
  World.ownsRow_lit w #[z] 1 hB (by decide) rfl
theorem new_below (w : World) (B : Nat) (hB : B ≤ w.heap.size) (o : Obj) : Below B w (w.alloc o) := (Below.refl w.heap.size w).alloc (Nat.le_refl _) o |>.mono hB

set_option maxHeartbeats 8000000 in
set_option maxRecDepth 100000 in
theorem written_any (n k : Nat) (hn : n < 100000000000000000) (hk : k ≤ 16) (w : World) : Calls Tryz.prog 70 #[.int .i64 (n : Int), .int .i64 (k : Int)] w fun e w' => e = .returned (.string (ba (wrS n k))) ∧ Below w.heap.size w w' := by
  have hdl := dec_len n 17 (by omega) (by omega)
  obtain ⟨i5, hi5, hz5, hsi5, hby5⟩ := info_parts infoByte
  go_enter Tryz.func70, Tryz.ntmps70
  go_wp2
  go_loopw [0, 5] (fun uv v wr => ∃ (u : Nat) (bs : Str), uv = .int .i64 (u : Int) ∧ BRow wr w.heap.size v bs ∧ u ≤ n ∧ Hid (WideAt n u bs) ∧ Hid (bs = [] → v = .slice none 0 0) ∧ Hid (Below w.heap.size w wr)) (fun uv v _ => 2 * (RowKit.intOf uv).toNat + (1 - vLen v))
  case atStart => exact ⟨n, [], rfl, World.ownsRow_nil _ _ _ _, Nat.le_refl _, hid (.inl ⟨rfl, rfl⟩), hid (fun _ => rfl), hid (Below.refl _ _)⟩
  case round =>
    obtain ⟨u, bs, rfl, hrow, hun, HW, hnil, HB⟩ := hrel
    have hsz := HB.out.size
    have hbl := HW.out.short
    have hu62 : u < 100000000000000000 := by omega
    by_cases hbs : bs = []
    · have hv := hnil.out hbs
      subst hv
      by_cases hu : 0 < u
      · have hu1 : decide (0 < (u : Int)) = true := decide_eq_true (by omega)
        have hu2 : (0 : Int) < (u : Int) := by omega
        have hap := run_append_owned_none (P := Tryz.prog) (w := wr.alloc (Obj.cells #[Value.int IntKind.u8 (48 + (u : Int) % 10)] 5)) w.heap.size 94 94 5 i5 1 Tryz.underlying94 hi5 _ 1 _ (new_byte wr w.heap.size hsz (Value.int IntKind.u8 (48 + (u : Int) % 10)))
        have hB2 := hid (HB.out.trans (new_below wr w.heap.size hsz (Obj.cells #[Value.int IntKind.u8 (48 + (u : Int) % 10)] 5)))
        go_wp2
        go_roundw
        case rel =>
          refine ⟨u / 10, one48 (u % 10) :: bs, by simp, ?_, by omega, hid (HW.out.step (.inl hu)), hid (fun h => by cases h), hB2⟩
          subst hbs
          unfold BRow
          show World.ownsRow _ _ _ _ _ 1 [Value.int .u8 ((one48 (u % 10)).toNat : Int)]
          rw [one48_val]
          exact new_byte wr w.heap.size hsz _
        case measure => simp [RowKit.intOf, vLen]; omega
      · obtain rfl : u = 0 := by omega
        have hap := run_append_owned_none (P := Tryz.prog) (w := wr.alloc (Obj.cells #[Value.int IntKind.u8 48] 5)) w.heap.size 94 94 5 i5 1 Tryz.underlying94 hi5 _ 1 _ (new_byte wr w.heap.size hsz (Value.int IntKind.u8 48))
        have hB2 := hid (HB.out.trans (new_below wr w.heap.size hsz (Obj.cells #[Value.int IntKind.u8 48] 5)))
        subst hbs
        go_wp2
        go_roundw
        case rel =>
          refine ⟨0, [one48 0], by simp, ?_, by omega, hid (HW.out.step (.inr rfl)), hid (fun h => by cases h), hB2⟩
          unfold BRow
          exact new_byte wr w.heap.size hsz _
        case measure => simp [RowKit.intOf, vLen]
    · obtain ⟨g, cap, rfl, hg, hcell⟩ := hrow.some hbs
      have hbpos : 0 < bs.length := List.length_pos_iff.2 hbs
      by_cases hu : 0 < u
      · have hu1 : decide (0 < (u : Int)) = true := decide_eq_true (by omega)
        have hu2 : (0 : Int) < (u : Int) := by omega
        have hcell2 : ∀ (o : Obj) j z, (byteCells bs)[j]? = some z → (wr.alloc o).cell? ((⟨g, 0, none⟩ : Addr).add j) = some z := fun o => (World.ownsRow.alloc hrow o).cells rfl
        have HC := hid hcell2
        have HC3 : Hid (1 + bs.length ≤ maxLen) := by unfold maxLen; exact hid (by omega)
        have HC4 : Hid ((1 + bs.length) * 1 ≤ 140737488355328) := hid (by omega)
        have HC5 : Hid (∀ o : Obj, w.heap.size ≤ (wr.alloc o).heap.size) := hid (fun o => by simp; omega)
        clear hcell hcell2
        go_wp2_with (at_builtin; refine wpList_append_own _ rfl _ _ 94 rfl w.heap.size 5 i5 (.int .u8 0) 1 1 Tryz.underlying94 hi5 hz5 hsi5 hby5 rfl (by decide) _ 1 [Value.int IntKind.u8 (48 + (u : Int) % 10)] rfl (new_byte wr w.heap.size hsz _) ⟨g, 0, none⟩ bs.length cap (byteCells bs) rfl (by rw [byteCells_len]; simp) (HC.out _) (byte_one _) HC3.out HC4.out (HC5.out _) ?_)
        intro v' w4 hown' hgrow _
        have hg' := grownBy_of_alloc hgrow
        have hb24 : Below w.heap.size wr w4 := (Below.refl _ wr).grown hg' hsz (fun k hk => by simp [Value.ownBlock] at hk; omega)
        have hrow4 : BRow w4 w.heap.size v' (one48 (u % 10) :: bs) := by
          unfold BRow
          show World.ownsRow _ _ _ _ _ (bs.length + 1) (Value.int .u8 ((one48 (u % 10)).toNat : Int) :: byteCells bs)
          rw [one48_val, Nat.add_comm]
          exact hown'
        obtain ⟨g', cap', rfl, _, _⟩ := hrow4.some (by simp)
        have HR4 := hid hrow4
        have HB4 := hid (HB.out.trans hb24)
        clear hb24 hg' hgrow hown' hrow4 hrow hnil HC HC3 HC4 HC5
        go_wp2
        go_roundw
        case rel => exact ⟨u / 10, one48 (u % 10) :: bs, by simp, HR4.out, by omega, hid (HW.out.step (.inl hu)), hid (fun h => by cases h), HB4⟩
        case measure => simp [RowKit.intOf, vLen]; omega
      · have hu2 : ¬ (0 : Int) < (u : Int) := by omega
        have hdec : bs = decDigits n := HW.out.done (by rintro (h | h); omega; exact hbs h)
        have hbz : ¬ ((bs.length : Int) = 0) := by omega
        have hbz2 : ((bs.length : Int) == 0) = false := by simpa using hbs
        have HROW := hid hrow
        have HDEC := hid hdec
        clear hcell hrow hnil hdec
        go_wp2
        go_loopw [5] (fun v wq => ∃ (j : Nat) (cs : Str), BRow wq w.heap.size v cs ∧ cs ≠ [] ∧ Hid (cs = zerosS j ++ decDigits n) ∧ Hid (j = 0 ∨ j + (decDigits n).length ≤ k) ∧ Hid (Below w.heap.size w wq)) (fun v _ => k - vLen v)
        case atStart => exact ⟨0, bs, HROW.out, hbs, hid (by rw [HDEC.out]; rfl), hid (.inl rfl), HB⟩
        case round =>
          obtain ⟨j, cs, hrow, hcs, hcz, hj, HB⟩ := hrel
          obtain ⟨g, cap, rfl, hg, hcell⟩ := hrow.some hcs
          have hlen : Hid (cs.length = j + (decDigits n).length) := hid (by rw [hcz.out]; simp [zerosS])
          have hcl : cs.length ≤ 17 := by
            have h1 := hlen.out
            rcases hj.out with h | h <;> omega
          have hsz := HB.out.size
          by_cases hlt : cs.length < k
          · have hltz : (cs.length : Int) < (k : Int) := by omega
            have hcell2 : ∀ (o : Obj) j z, (byteCells cs)[j]? = some z → (wr.alloc o).cell? ((⟨g, 0, none⟩ : Addr).add j) = some z := fun o => (World.ownsRow.alloc hrow o).cells rfl
            have HC := hid hcell2
            have HC3 : Hid (1 + cs.length ≤ maxLen) := by unfold maxLen; exact hid (by omega)
            have HC4 : Hid ((1 + cs.length) * 1 ≤ 140737488355328) := hid (by omega)
            have HC5 : Hid (∀ o : Obj, w.heap.size ≤ (wr.alloc o).heap.size) := hid (fun o => by simp; omega)
            clear hcell hcell2
            go_wp2_with (at_builtin; refine wpList_append_own _ rfl _ _ 94 rfl w.heap.size 5 i5 (.int .u8 0) 1 1 Tryz.underlying94 hi5 hz5 hsi5 hby5 rfl (by decide) _ 1 [Value.int IntKind.u8 48] rfl (new_byte wr w.heap.size hsz _) ⟨g, 0, none⟩ cs.length cap (byteCells cs) rfl (by rw [byteCells_len]; simp) (HC.out _) (byte_one _) HC3.out HC4.out (HC5.out _) ?_)
            intro v' w4 hown' hgrow _
            have hg' := grownBy_of_alloc hgrow
            have hb24 : Below w.heap.size wr w4 := (Below.refl _ wr).grown hg' hsz (fun k hk => by simp [Value.ownBlock] at hk; omega)
            have hrow4 : BRow w4 w.heap.size v' (48 :: cs) := by
              unfold BRow
              show World.ownsRow _ _ _ _ _ (cs.length + 1) (Value.int .u8 48 :: byteCells cs)
              rw [Nat.add_comm]
              exact hown'
            obtain ⟨g', cap', rfl, _, _⟩ := hrow4.some (by simp)
            have HR4 := hid hrow4
            have HB4 := hid (HB.out.trans hb24)
            clear hb24 hg' hgrow hown' hrow4 hrow HC HC3 HC4 HC5
            go_wp2
            go_roundw
            case rel => exact ⟨j + 1, 48 :: cs, HR4.out, by simp, hid (by rw [hcz.out]; simp [zerosS, List.replicate_succ]), hid (.inr (by have := hlen.out; omega)), HB4⟩
            case measure => simp [vLen]; omega
          · have hltz : ¬ (cs.length : Int) < (k : Int) := by omega
            have hcv := row_string (P := Tryz.prog) hrow 94 5 9 Tryz.underlying94 Tryz.underlying5 Tryz.underlying9
            have hz : Hid (⟨cs.toArray⟩ = ba (wrS n k)) := hid (by
              have hjk : j = k - (decDigits n).length := by
                have h1 := hlen.out
                rcases hj.out with h | h <;> omega
              show ba cs = _
              rw [hcz.out, hjk]
              rfl)
            clear hcell hrow hcz
            go_wp2
            go_ret
            exact ⟨by rw [← hz.out]; rfl, HB.out⟩
end Go.Proofs.YtpaejkhaiifgdaaGreatDoor.S3

set_option linter.unusedVariables false
namespace Go.Proofs.YtpaejkhaiifgdaaGreatDoor.S3
open Go Go.Proofs Go.RowKit Go.Lib

theorem baOf {R : ByteArray} {l : Str} (h : lst R = l) : R = ba l := by
  rw [← h]; cases R; rfl
/-- While the list is looked at. -/
structure AK (w W1 wr : World) : Prop where
  b : Below w.heap.size w wr
  c : Below W1.heap.size W1 wr
theorem AK.step {w W1 wr w2 : World} (h : AK w W1 wr) (hb : Below wr.heap.size wr w2) : AK w W1 w2 := ⟨h.b.trans (hb.mono h.b.size), h.c.trans (hb.mono h.c.size)⟩
theorem AK.drew {w W1 wr : World} (h : AK w W1 wr) : AK w W1 wr.drew := ⟨h.b.drew, h.c.drew⟩
theorem AK.at_ {w W1 wr : World} (h : AK w W1 wr) {b off : Nat} {v : Value} (hb : b < W1.heap.size) (hc : W1.cell? ⟨b, off, none⟩ = some v) : wr.cell? ⟨b, off, none⟩ = some v :=
  (h.c.cell (p := ⟨b, off, none⟩) hb).trans hc

set_option maxHeartbeats 12000000 in
set_option maxRecDepth 100000 in
theorem ahead_any (A : Option Addr) (f : Str) (r : List Str) (c : Nat) (Pp : Nat → Prop) (w : World) (h : StrsIn w Pp A (f :: r)) (hPp : ∀ b, Pp b → b < w.heap.size) (h64 : r.length < 64) (hf : f.length ≤ 16) (hE : Env w) :
    Calls Tryz.prog 68 #[.slice A (r.length + 1) c] w fun e w' => e = .returned (.int .i64 (aheadM (f :: r) : Nat)) ∧ Below w.heap.size w w' := by
  rcases h with h | ⟨b, off, rfl, hb, hc⟩
  · cases h
  have cD := divide_any (ba f) hf w hE
  have c0 : w.cell? ⟨b, off, none⟩ = some (.string (ba f)) := hc 0 f rfl
  have hbl := hPp b hb
  have HC := hid hc
  have HE := hid hE
  have ho := (last_len f hf)
  have hnum := numL_small f hf
  obtain ⟨ANS, hANS⟩ : ∃ ANS, aheadM (f :: r) = ANS := ⟨_, rfl⟩
  rw [hANS]
  have HANS := hid hANS
  clear hc hE hANS
  go_enter Tryz.func68, Tryz.ntmps68
  go_wp2_with fail
  refine cD.mono ?_
  rintro e w1 ⟨⟨P, rfl, hP⟩, hb1⟩
  have hPs : P.size ≤ 16 := by rw [show P.size = (lst P).length from Lib.size_eq P, hP]; exact ho.2
  unfold divV
  rw [show lst (ba f) = f from rfl] at hP ⊢
  obtain ⟨nA, hnA⟩ : ∃ n, numL f = n := ⟨_, rfl⟩
  obtain ⟨wA, hwA⟩ : ∃ n, (lastS f).length = n := ⟨_, rfl⟩
  rw [hnA, hwA]
  rw [hnA] at hnum
  rw [hwA] at ho
  have HB1 := hid hb1
  obtain ⟨W1, hW1⟩ : ∃ W1, w1.alloc (.cells #[.string P, .int .i64 (nA : Int), .int .i64 (wA : Int)] 127) = W1 := ⟨_, rfl⟩
  have hz : W1.heap[w1.heap.size]? = some (.cells #[.string P, .int .i64 (nA : Int), .int .i64 (wA : Int)] 127 (0, 0)) := by rw [← hW1]; exact heap_alloc_new w1 _
  have hbW : Below w1.heap.size w1 W1 := by rw [← hW1]; exact (Below.refl _ w1).alloc (Nat.le_refl _) _
  have hlt1 : w1.heap.size < W1.heap.size := (Array.getElem?_eq_some_iff.1 hz).1
  have hbl1 : b < W1.heap.size := by have := hb1.size; omega
  have z0 : W1.cell? ⟨w1.heap.size, 0, none⟩ = some (.string P) := by rw [Lib.cell_of_heap hz]; rfl
  have z1 : W1.cell? ⟨w1.heap.size, 1, none⟩ = some (.int .i64 (nA : Int)) := by rw [Lib.cell_of_heap hz]; rfl
  have z2 : W1.cell? ⟨w1.heap.size, 2, none⟩ = some (.int .i64 (wA : Int)) := by rw [Lib.cell_of_heap hz]; rfl
  have HCW : Hid (∀ (i : Nat) (s : Str), (f :: r)[i]? = some s → W1.cell? ⟨b, off + i, none⟩ = some (.string (ba s))) := hid (fun i s hi =>
    (hbW.cell (p := ⟨b, off + i, none⟩) (by show b < w1.heap.size; have := hb1.size; omega)).trans ((hb1.cell (p := ⟨b, off + i, none⟩) hbl).trans (HC.out i s hi)))
  have HKW : Hid (AK w W1 W1) := hid ⟨hb1.trans (hbW.mono hb1.size), Below.refl _ _⟩
  have Z0 := hid z0
  have Z1 := hid z1
  have Z2 := hid z2
  clear hz z0 z1 z2 cD hbW
  obtain ⟨ok, hok⟩ : ∃ ok, hasL f = ok := ⟨_, rfl⟩
  have HA : Hid (aheadM (f :: r) = if ok = true then aheadGo f 1 r else 1) := hid (by show (if hasL f = true then aheadGo f 1 r else 1) = _; rw [hok])
  rw [HANS.out] at HA
  rw [hok]
  have HNT : Hid (∀ i, nthS f i = lst P ++ wrS (nA + i) wA) := hid (fun i => by unfold nthS; rw [hP, hnA, hwA])
  clear hok hnA hwA hP HANS
  go_wp2
  clear hW1
  go_loopw [3] (fun iv wr => ∃ i : Nat, iv = .int .i64 (i : Int) ∧ 1 ≤ i ∧ i ≤ r.length + 1 ∧ Hid (AK w W1 wr) ∧ Hid (ANS = if ok = true then aheadGo f i (r.drop (i - 1)) else i)) (fun iv _ => r.length + 1 - (RowKit.intOf iv).toNat)
  case atStart => exact ⟨1, rfl, by omega, by omega, HKW, hid (by rw [HA.out]; rfl)⟩
  case round =>
    obtain ⟨i, rfl, hi1, hi2, hK, hAns⟩ := hrel
    cases ok with
    | false =>
      have hr : Hid (ANS = i) := hid (by rw [hAns.out]; simp)
      go_wp2_with fail
      go_quiet (fail)
      go_wp2_with fail
      go_ret
      exact ⟨by rw [hr.out]; rfl, below_drewN hK.out.b _⟩
    | true =>
      have hr : Hid (ANS = aheadGo f i (r.drop (i - 1))) := hid (by rw [hAns.out]; simp)
      clear hAns HA
      by_cases hlt : i < r.length + 1
      · obtain ⟨j, hj⟩ : ∃ j, i = j + 1 := ⟨i - 1, by omega⟩
        have HJ := hid hj
        obtain ⟨s, hs⟩ : ∃ s, r[j]? = some s := ⟨_, List.getElem?_eq_getElem (by omega)⟩
        have hcell := HCW.out i s (by rw [hj, List.getElem?_cons_succ]; exact hs)
        have hstep : Hid (ANS = if s = nthS f i then aheadGo f (i + 1) (r.drop i) else i) := hid (by
          rw [hr.out, hj, show j + 1 - 1 = j by omega, List.drop_eq_getElem_cons (show j < r.length by omega)]
          rw [List.getElem?_eq_getElem (by omega)] at hs
          rw [Option.some.inj hs]
          rfl)
        have c63 : Hid (∀ wx, AK w W1 wx → Calls Tryz.prog 84 #[.agg #[.string P, .int .i64 (nA : Int), .int .i64 (wA : Int)], .int .i64 (i : Int)] wx fun e w' => e = .returned (.string (ba (nthS f i))) ∧ AK w W1 w') := hid (fun wx h => by
          have := after_any P nA wA i hPs (by omega) ho.1 wx (HE.out.below h.b)
          exact this.mono fun e w' ⟨⟨R, he, hl⟩, hb⟩ => ⟨by rw [he, baOf hl, HNT.out], h.step hb⟩)
        have hk := hK.out
        have q0 := hk.at_ hlt1 Z0.out
        have q1 := hk.at_ hlt1 Z1.out
        have q2 := hk.at_ hlt1 Z2.out
        have h0 := hk.at_ hbl1 hcell
        have hiz : (i : Int) < (r.length : Int) + 1 := by omega
        have hid1 : decide ((i : Int) < (r.length : Int) + 1) = true := decide_eq_true hiz
        have hid2 : decide (i < r.length + 1) = true := decide_eq_true hlt
        clear hj
        obtain ⟨S, hS⟩ : ∃ S, ba s = S := ⟨_, rfl⟩
        obtain ⟨T, hT⟩ : ∃ T, ba (nthS f i) = T := ⟨_, rfl⟩
        rw [hS] at hcell h0
        rw [hT] at c63
        rcases str_eq (a := S) (b := T) with ⟨he, t1, t2⟩ | ⟨he, t1, t2⟩
        · have hst : Hid (ANS = aheadGo f (i + 1) (r.drop i)) := hid (by
            rw [hstep.out, if_pos]
            rw [← hS, ← hT] at he
            exact he)
          have hk' : AK w W1 wr.drew := hK.out.drew
          have HCELL := hid hcell
          clear hS hT hK hr hstep hs he hcell h0 q0 q1 q2 hk
          go_wp2_with fail
          go_region_held3 (fun w' => w'.cell? ⟨w1.heap.size, 0, none⟩ = some (.string P) ∧ w'.cell? ⟨w1.heap.size, 1, none⟩ = some (.int .i64 (nA : Int)) ∧ w'.cell? ⟨w1.heap.size, 2, none⟩ = some (.int .i64 (wA : Int)) ∧ w'.cell? ⟨b, off + i, none⟩ = some (.string S))
            (first | exact ⟨hk'.at_ hlt1 Z0.out, hk'.at_ hlt1 Z1.out, hk'.at_ hlt1 Z2.out, hk'.at_ hbl1 HCELL.out⟩)
            (first | (go_at_call 84; refine (c63.out _ hk').mono ?_; rintro e w' ⟨rfl, hk'⟩))
          all_goals
            have HK' := hid hk'
            clear hk' c63
            go_wp2_with fail
            go_roundw
            case rel => exact ⟨i + 1, by go_num, by omega, by omega, HK'.out |> hid, hid (by rw [hst.out]; rfl)⟩
            case measure => simp [RowKit.intOf]; omega
        · have hst : Hid (ANS = i) := hid (by
            rw [hstep.out, if_neg]
            rw [← hS, ← hT] at he
            exact he)
          have hk' : AK w W1 wr.drew := hK.out.drew
          have HCELL := hid hcell
          clear hS hT hK hr hstep hs he hcell h0 q0 q1 q2 hk
          go_wp2_with fail
          go_region_held3 (fun w' => w'.cell? ⟨w1.heap.size, 0, none⟩ = some (.string P) ∧ w'.cell? ⟨w1.heap.size, 1, none⟩ = some (.int .i64 (nA : Int)) ∧ w'.cell? ⟨w1.heap.size, 2, none⟩ = some (.int .i64 (wA : Int)) ∧ w'.cell? ⟨b, off + i, none⟩ = some (.string S))
            (first | exact ⟨hk'.at_ hlt1 Z0.out, hk'.at_ hlt1 Z1.out, hk'.at_ hlt1 Z2.out, hk'.at_ hbl1 HCELL.out⟩)
            (first | (go_at_call 84; refine (c63.out _ hk').mono ?_; rintro e w' ⟨rfl, hk'⟩))
          all_goals
            go_wp2_with fail
            go_ret
            exact ⟨by rw [hst.out]; rfl, hk'.b⟩
      · obtain rfl : i = r.length + 1 := by omega
        have hr2 : Hid (ANS = r.length + 1) := hid (by rw [hr.out, List.drop_of_length_le (by omega)]; rfl)
        have hd1 : decide ((r.length : Int) + 1 < (r.length : Int) + 1) = false := decide_eq_false (by omega)
        go_wp2_with fail
        go_quiet (fail)
        go_wp2_with fail
        go_ret
        exact ⟨by rw [hr2.out]; rfl, below_drewN hK.out.b _⟩
end Go.Proofs.YtpaejkhaiifgdaaGreatDoor.S3

