/-
  How two times stand to each other, by the specification: meet, Between, Overlap, Before. Conditions: none. The place of a lecturer, and whether one is there, .. Conditions: as stated.
-/
import Derived.Test.YtnpfmoalgphkcaaGreatDoorMM01
import Derived.Test.YtnpfmoalgphkcaaGreatDoorMM02
import Derived.Test.YtnpfmoalgphkcaaGreatDoorMM03
import Derived.Test.YtnpfmoalgphkcaaGreatDoorMM04
import Derived.Test.YtnpfmoalgphkcaaGreatDoorMM05
import Derived.Test.YtnpfmoalgphkcaaGreatDoorMM06
import Derived.Test.YtnpfmoalgphkcaaGreatDoorMM07
import Derived.Test.YtnpfmoalgphkcaaGreatDoorMM08
import Derived.Test.YtnpfmoalgphkcaaGreatDoorMM09
import Derived.Test.YtnpfmoalgphkcaaGreatDoorMM10
import Derived.Test.YtnpfmoalgphkcaaGreatDoorMM11
import Derived.Test.YtnpfmoalgphkcaaGreatDoorMM12
import Derived.Test.YtnpfmoalgphkcaaGreatDoorMM13
import Derived.Test.YtnpfmoalgphkcaaGreatDoorMM14
import Derived.Test.YtnpfmoalgphkcaaGreatDoorMM15
import Derived.Test.YtnpfmoalgphkcaaGreatDoorMM16
import Derived.Test.YtnpfmoalgphkcaaGreatDoorProg
import Derived.WalkKit
import Derived.WalkSpells
import Derived.WalkLawsBesides
import Derived.Lib.Hide
import Derived.Deep.QuietTactic
import Derived.BigQuiet
import Derived.Laws.Rows
import Derived.OwnWalk
import Derived.Lib.BufferWrite
import Derived.Lib.UnsafeStr
import Derived.Laws.IdiomStrings
import Derived.Laws.BytesArg
import Derived.Laws.BytesString
import Derived.Laws.OwnMore
import Derived.Lib.IndexLaws
import Derived.Lib.ItoaNum
import Derived.Lib.Atoi
import Derived.Deep.RegionLaw
import Derived.Deep.RegionHeld3
import Derived.Handy
import Derived.Laws.BitsAllLaws
import Derived.Laws.BitsLemmas
import Derived.Deep.MidRow
import Derived.Shelf.Strings.Builder1
import Derived.Shelf.Strings.Builder2
import Derived.Shelf.Strings.OnBuilder
import Derived.Shelf.Strings.BuilderF
import Derived.Shelf.Strings.BuilderK
import Derived.Shelf.Strings.Builder2Cap
import Derived.Shelf.Strconv.Atoi
import Derived.Shelf.Strconv.Itoa0
import Derived.Shelf.Strconv.Itoa1
import Derived.Shelf.LaysM
import Derived.Shelf.Strconv.Itoa2
import Derived.Shelf.Strconv.Itoa3
import Derived.Shelf.Strconv.AtoiErrFast
import Derived.Shelf.Strconv.ParseIntEmpty
import Derived.Shelf.Strconv.AtoiFail
import Derived.Shelf.Strconv.Clone
import Derived.Shelf.Strconv.SyntaxError
import Derived.Shelf.LaysC
import Derived.Shelf.Strconv.ToError
import Derived.Shelf.Strconv.AtoiErr
import Derived.Shelf.Strings.Search1
import Derived.Shelf.Strings.Search2
import Derived.Shelf.Strings.Search3
import Derived.Shelf.Strings.Cut
import Derived.Shelf.Strings.Shaped
import Derived.Shelf.Strings.Prefix
import Derived.Shelf.Unicode.DecodeSlow
import Derived.Shelf.Strings.BuilderCap
import Derived.Lib.AtoiErrMem
import Derived.Lib.Bytealg
import Derived.RangeFuncNested
import Derived.RangeFuncBound
import Derived.RangeFuncCalls
import Derived.RangeFuncLeaves
import Derived.Shelf.Abstract
import Derived.Shelf.RegionOpen
import Derived.OwnWalkIn
import Derived.Lib.SlTrimSet
import Derived.Shelf.Strings.SlTrimAscii
import Derived.Laws.ResultCell
import Derived.RegionTactic
import Derived.Lib.Repeat
import Derived.Lib.SlicesS
import Derived.TacticsInMore
import Derived.LoopNIn
import Derived.LoopIn
import Derived.Deep.DeepCutAuto
import Derived.Lib.Join
import Derived.Laws.Concat
import Derived.Shelf.SlGeneric
import Derived.Shelf.SlicesQ.IndexFunc
import Derived.Sort.Walk0
import Derived.Maps.OwnSet
import Derived.Maps.Range
import Derived.Sort.EncStr
import Derived.StillTailTactics
import Derived.Lib.AppendIntMem
import Derived.Maps.AppendAt
set_option linter.unusedVariables false
namespace Go.Proofs.YtnpfmoalgphkcaaGreatDoor
open Go Go.Proofs Go.RowKit Go.Lib
set_option maxHeartbeats 4000000 in
set_option maxRecDepth 100000 in
theorem rmeet_any (k y t l k' y' t' l' : Int) (w : World) : Calls Tryz.prog 102 #[.agg #[.int .i64 k, .int .i64 y, .int .i64 t, .int .i64 l], .agg #[.int .i64 k', .int .i64 y', .int .i64 t', .int .i64 l']] w (Says (.bool (meetB k y t l k' y' t' l')) w) := by
  have cS := fun w => rsound_any k y t l w
  have cS2 := fun w => rsound_any k' y' t' l' w
  unfold Says at cS cS2 ⊢
  cases hs : soundB k y t l with
  | false =>
    rw [show meetB k y t l k' y' t' l' = false from decide_eq_false (fun h => by rw [hs] at h; exact absurd h.1 (by simp))]
    rw [hs] at cS
    clear hs cS2
    have HK := hid (K2.first w k y t l k' y' t' l' 26 26)
    go_enter Tryz.func102, Tryz.ntmps102
    go_wp2_with fail
    refine (cS _).mono ?_
    rintro e w1 ⟨rfl, hb⟩
    have hk := HK.out.next hb
    clear hb HK
    obtain ⟨⟨x0, x1, x2, x3, _⟩, ⟨y0, y1, y2, y3, _⟩, _⟩ := id hk
    go_wp2
    go_ret
    exact ⟨rfl, hk.b⟩
  | true =>
    rw [hs] at cS
    cases hs2 : soundB k' y' t' l' with
    | false =>
      rw [show meetB k y t l k' y' t' l' = false from decide_eq_false (fun h => by rw [hs2] at h; exact absurd h.2.1 (by simp))]
      rw [hs2] at cS2
      clear hs hs2
      have HK := hid (K2.first w k y t l k' y' t' l' 26 26)
      go_enter Tryz.func102, Tryz.ntmps102
      go_wp2_with fail
      refine (cS _).mono ?_
      rintro e w1 ⟨rfl, hb⟩
      have hk := HK.out.next hb
      clear hb HK
      obtain ⟨⟨x0, x1, x2, x3, _⟩, ⟨y0, y1, y2, y3, _⟩, _⟩ := id hk
      go_wp2_with fail
      refine (cS2 _).mono ?_
      rintro e w1 ⟨rfl, hb⟩
      have hk := hk.next hb
      clear hb
      obtain ⟨⟨x0, x1, x2, x3, _⟩, ⟨y0, y1, y2, y3, _⟩, _⟩ := id hk
      go_wp2
      go_ret
      exact ⟨rfl, hk.b⟩
    | true =>
      rw [hs2] at cS2
      by_cases hw : bits .and .i64 k k' = 0
      · rw [show meetB k y t l k' y' t' l' = false from decide_eq_false (fun h => h.2.2.1 hw)]
        clear hs hs2
        have HK := hid (K2.first w k y t l k' y' t' l' 26 26)
        go_enter Tryz.func102, Tryz.ntmps102
        go_wp2_with fail
        refine (cS _).mono ?_
        rintro e w1 ⟨rfl, hb⟩
        have hk := HK.out.next hb
        clear hb HK
        obtain ⟨⟨x0, x1, x2, x3, _⟩, ⟨y0, y1, y2, y3, _⟩, _⟩ := id hk
        go_wp2_with fail
        refine (cS2 _).mono ?_
        rintro e w1 ⟨rfl, hb⟩
        have hk := hk.next hb
        clear hb
        obtain ⟨⟨x0, x1, x2, x3, _⟩, ⟨y0, y1, y2, y3, _⟩, _⟩ := id hk
        go_wp2
        go_ret
        exact ⟨rfl, hk.b⟩
      · have hwd : (bits .and .i64 k k' != 0) = true := by simpa using hw
        by_cases hy : y = y'
        · rw [show meetB k y t l k' y' t' l' = true from decide_eq_true ⟨hs, hs2, hw, hy⟩]
          have hyd : (y == y') = true := by simpa using hy
          clear hs hs2 hw hy
          have HK := hid (K2.first w k y t l k' y' t' l' 26 26)
          go_enter Tryz.func102, Tryz.ntmps102
          go_wp2_with fail
          refine (cS _).mono ?_
          rintro e w1 ⟨rfl, hb⟩
          have hk := HK.out.next hb
          clear hb HK
          obtain ⟨⟨x0, x1, x2, x3, _⟩, ⟨y0, y1, y2, y3, _⟩, _⟩ := id hk
          go_wp2_with fail
          refine (cS2 _).mono ?_
          rintro e w1 ⟨rfl, hb⟩
          have hk := hk.next hb
          clear hb
          obtain ⟨⟨x0, x1, x2, x3, _⟩, ⟨y0, y1, y2, y3, _⟩, _⟩ := id hk
          go_wp2
          go_ret
          exact ⟨rfl, hk.b⟩
        · have hyd : (y == y') = false := by simpa using hy
          rw [show meetB k y t l k' y' t' l' = false from decide_eq_false (fun h => hy h.2.2.2)]
          clear hs hs2 hw
          have HK := hid (K2.first w k y t l k' y' t' l' 26 26)
          go_enter Tryz.func102, Tryz.ntmps102
          go_wp2_with fail
          refine (cS _).mono ?_
          rintro e w1 ⟨rfl, hb⟩
          have hk := HK.out.next hb
          clear hb HK
          obtain ⟨⟨x0, x1, x2, x3, _⟩, ⟨y0, y1, y2, y3, _⟩, _⟩ := id hk
          go_wp2_with fail
          refine (cS2 _).mono ?_
          rintro e w1 ⟨rfl, hb⟩
          have hk := hk.next hb
          clear hb
          obtain ⟨⟨x0, x1, x2, x3, _⟩, ⟨y0, y1, y2, y3, _⟩, _⟩ := id hk
          go_wp2
          go_ret
          exact ⟨rfl, hk.b⟩
set_option maxHeartbeats 4000000 in
set_option maxRecDepth 100000 in
theorem rbetween_any (k y t l k' y' t' l' : Int) (w : World) : Calls Tryz.prog 83 #[.agg #[.int .i64 k, .int .i64 y, .int .i64 t, .int .i64 l], .agg #[.int .i64 k', .int .i64 y', .int .i64 t', .int .i64 l']] w (Says (.tuple #[.int .i64 (betM k y t l k' y' t' l').1, .bool (betM k y t l k' y' t' l').2]) w) := by
  have cM := fun w => rmeet_any k y t l k' y' t' l' w
  unfold Says at cM ⊢
  unfold betM
  cases hm : meetB k y t l k' y' t' l' with
  | false =>
    rw [if_neg (by simp)]
    rw [hm] at cM
    clear hm
    have HK := hid (K2.first w k y t l k' y' t' l' 26 26)
    go_enter Tryz.func83, Tryz.ntmps83
    go_wp2_with fail
    refine (cM _).mono ?_
    rintro e w1 ⟨rfl, hb⟩
    have hk := HK.out.next hb
    clear hb HK
    obtain ⟨⟨x0, x1, x2, x3, _⟩, ⟨y0, y1, y2, y3, _⟩, _⟩ := id hk
    go_wp2
    go_ret2
    exact ⟨rfl, hk.b⟩
  | true =>
    rw [if_pos rfl]
    rw [hm] at cM
    obtain ⟨m1, m2, -, -⟩ : soundB k y t l = true ∧ soundB k' y' t' l' = true ∧ bits .and .i64 k k' ≠ 0 ∧ y = y' := of_decide_eq_true hm
    obtain ⟨s1, s2, s3, s4, s5⟩ := sound_of m1
    obtain ⟨r1, r2, r3, r4, r5⟩ := sound_of m2
    have four : ∃ D, max t t' - min (t + l) (t' + l') = D ∧ gapI t l t' l' = max D (-1) ∧ IntKind.i64.wrap D = D := by
      refine ⟨_, rfl, rfl, IntWalk.i64_in _ ?_⟩
      omega
    obtain ⟨D, hD, hG, hWD⟩ := four
    rw [hG]
    clear hm m1 m2 s1 r1 hG
    have HK := hid (K2.first w k y t l k' y' t' l' 26 26)
    go_enter Tryz.func83, Tryz.ntmps83
    go_wp2_with fail
    refine (cM _).mono ?_
    rintro e w1 ⟨rfl, hb⟩
    have hk := HK.out.next hb
    clear hb HK
    obtain ⟨⟨x0, x1, x2, x3, _⟩, ⟨y0, y1, y2, y3, _⟩, _⟩ := id hk
    go_wp2
    go_ret2
    exact ⟨rfl, hk.b⟩
set_option maxHeartbeats 2000000 in
theorem roverlap_any (k y t l k' y' t' l' : Int) (w : World) :
    Calls Tryz.prog 61 #[.agg #[.int .i64 k, .int .i64 y, .int .i64 t, .int .i64 l], .agg #[.int .i64 k', .int .i64 y', .int .i64 t', .int .i64 l']] w (Says (.bool (overB k y t l k' y' t' l')) w) := by
  have cB := fun w => rbetween_any k y t l k' y' t' l' w
  unfold Says overB at *
  generalize betM k y t l k' y' t' l' = R at cB ⊢
  obtain ⟨N, O⟩ := R
  dsimp only at cB ⊢
  cases O with
  | false =>
    have HK := hid (K2.first w k y t l k' y' t' l' 26 26)
    go_enter Tryz.func61, Tryz.ntmps61
    go_wp2_with fail
    refine (cB _).mono ?_
    rintro e w1 ⟨rfl, hb⟩
    have hk := HK.out.next hb
    clear hb HK
    obtain ⟨⟨x0, x1, x2, x3, _⟩, ⟨y0, y1, y2, y3, _⟩, _⟩ := id hk
    go_wp2
    go_ret
    exact ⟨rfl, hk.b⟩
  | true =>
    rw [Bool.true_and]
    by_cases hn : N < 0
    · have hnd : decide (N < 0) = true := decide_eq_true hn
      rw [hnd]
      have HK := hid (K2.first w k y t l k' y' t' l' 26 26)
      go_enter Tryz.func61, Tryz.ntmps61
      go_wp2_with fail
      refine (cB _).mono ?_
      rintro e w1 ⟨rfl, hb⟩
      have hk := HK.out.next hb
      clear hb HK
      obtain ⟨⟨x0, x1, x2, x3, _⟩, ⟨y0, y1, y2, y3, _⟩, _⟩ := id hk
      go_wp2
      go_ret
      exact ⟨rfl, hk.b⟩
    · have hnd : decide (N < 0) = false := decide_eq_false hn
      rw [hnd]
      have HK := hid (K2.first w k y t l k' y' t' l' 26 26)
      go_enter Tryz.func61, Tryz.ntmps61
      go_wp2_with fail
      refine (cB _).mono ?_
      rintro e w1 ⟨rfl, hb⟩
      have hk := HK.out.next hb
      clear hb HK
      obtain ⟨⟨x0, x1, x2, x3, _⟩, ⟨y0, y1, y2, y3, _⟩, _⟩ := id hk
      go_wp2
      go_ret
      exact ⟨rfl, hk.b⟩
def idxG : List Str → Str → Nat → Int
  | [], _, _ => -1
  | x :: r, c, k => if x = c then (k : Int) else idxG r c (k + 1)
theorem idxG_spec : ∀ (l : List Str) (c : Str) (k : Nat), (c ∉ l ∧ idxG l c k = -1) ∨ ∃ j, ∃ hj : j < l.length, l[j] = c ∧ (∀ m, ∀ hm : m < j, l[m]'(by omega) ≠ c) ∧ idxG l c k = (k : Int) + j
  | [], c, k => .inl ⟨by simp, rfl⟩
  | x :: r, c, k => by
    unfold idxG
    by_cases h : x = c
    · rw [if_pos h]
      exact .inr ⟨0, by simp, h, fun m hm => by omega, by simp⟩
    · rw [if_neg h]
      rcases idxG_spec r c (k + 1) with ⟨h1, h2⟩ | ⟨j, hj, h1, h2, h3⟩
      · exact .inl ⟨by simp [Ne.symm h, h1], h2⟩
      · refine .inr ⟨j + 1, by simpa using hj, by simpa using h1, fun m hm => ?_, by rw [h3]; push_cast; omega⟩
        cases m with
        | zero => simpa using h
        | succ m => simpa using h2 m (by omega)
theorem idxG_pos (l : List Str) (c : Str) : (0 ≤ idxG l c 0) ↔ c ∈ l := by
  rcases idxG_spec l c 0 with ⟨h1, h2⟩ | ⟨j, hj, h1, _, h3⟩
  · rw [h2]; constructor
    · intro h; omega
    · intro h; exact absurd h h1
  · rw [h3]; constructor
    · intro _; rw [← h1]; exact List.getElem_mem hj
    · intro _; omega
theorem idxG_lt (l : List Str) (i : Nat) (hi : i < l.length) : (idxG l l[i] 0 < (i : Int)) ↔ l[i] ∈ l.take i := by
  rcases idxG_spec l l[i] 0 with ⟨h1, h2⟩ | ⟨j, hj, h1, h2, h3⟩
  · exact absurd (List.getElem_mem hi) h1
  · rw [h3]
    constructor
    · intro h
      have hji : j < i := by omega
      rw [← h1]
      exact List.mem_take_iff_getElem.2 ⟨j, by omega, rfl⟩
    · intro h
      obtain ⟨m, hm, he⟩ := List.mem_take_iff_getElem.1 h
      by_cases hjm : j ≤ m
      · omega
      · exact absurd he (h2 m (by omega))
theorem codesL_drop (l : List LectD) (k : Nat) (h : k < l.length) : codesL (l.drop k) = l[k].1 :: codesL (l.drop (k + 1)) := by
  rw [List.drop_eq_getElem_cons h]; rfl
set_option maxHeartbeats 4000000 in
set_option maxRecDepth 100000 in
theorem rindex_any (A : Option Addr) (l : List LectD) (c : Nat) (s : ByteArray) (w : World) (h : LectsIn w (fun k => k < w.heap.size) A l) (hl63 : l.length ≤ 9223372036854775807) :
    Calls Tryz.prog 45 #[.slice A l.length c, .string s] w fun e w' => e = .returned (.int .i64 (idxG (codesL l) (lst s) 0)) ∧ w = w' := by
  obtain ⟨R, hR⟩ : ∃ R, idxG (codesL l) (lst s) 0 = R := ⟨_, rfl⟩
  rw [hR]
  have HR : Hid (idxG (codesL (l.drop 0)) (lst s) 0 = R) := hid hR
  have HH := hid h
  clear hR h
  go_enter Tryz.func45, Tryz.ntmps45
  go_wp2
  go_loop [5] (fun iv => ∃ k : Nat, iv = .int .i64 (k : Int) ∧ k ≤ l.length ∧ Hid (idxG (codesL (l.drop k)) (lst s) k = R)) (fun iv => l.length - (RowKit.intOf iv).toNat)
  case atStart => exact ⟨0, rfl, Nat.zero_le _, HR⟩
  case round =>
    obtain ⟨k, rfl, hk, hE⟩ := hrel
    by_cases hlt : k < l.length
    · have hltz : (k : Int) < (l.length : Int) := by omega
      have dk : decide (l.length ≤ k) = false := decide_eq_false (by omega)
      obtain ⟨fb, fo, q, rfl, hfb, hri, y0, y1⟩ := HH.out.at_ hlt
      have hst := hE.out
      rw [codesL_drop l k hlt] at hst
      unfold idxG at hst
      obtain ⟨Y, hY⟩ : ∃ Y, ba l[k].1 = Y := ⟨_, rfl⟩
      have hYl : lst Y = l[k].1 := by rw [← hY]; rfl
      rw [hY] at y0
      have ty : Y.toList = lst Y := Lib.toList_data Y
      have ts : s.toList = lst s := Lib.toList_data s
      rw [← hYl] at hst
      clear hri hY hYl
      by_cases he : lst Y = lst s
      · rw [if_pos he] at hst
        have b1 : (Y.toList == s.toList) = true := by rw [ty, ts, he]; simp
        have b2 : (Y.toList != s.toList) = false := by rw [ty, ts, he]; simp
        have HRR := hid hst.symm
        clear hst ty ts he
        go_wp2
        go_ret
        exact ⟨by rw [HRR.out]; rfl, rfl⟩
      · rw [if_neg he] at hst
        have b1 : (Y.toList == s.toList) = false := by rw [ty, ts]; simpa using he
        have b2 : (Y.toList != s.toList) = true := by rw [ty, ts]; simpa using he
        have HRR := hid hst
        clear hst ty ts he
        go_wp2
        go_round
        case rel => exact ⟨k + 1, by go_num, by omega, HRR⟩
        case measure => simp [RowKit.intOf]; omega
    · have hltz : ¬ (k : Int) < (l.length : Int) := by omega
      have hst := hE.out
      rw [List.drop_of_length_le (by omega)] at hst
      have HRR : Hid (R = -1) := hid hst.symm
      clear hst
      go_wp2
      go_ret
      exact ⟨by rw [HRR.out]; rfl, rfl⟩
set_option maxHeartbeats 4000000 in
set_option maxRecDepth 100000 in
theorem rclear_any (A : Option Addr) (l : List TimeD) (c : Nat) (t : TimeD) (ht : t.2.2.1 ≤ 9223372036854775807) (w : World) (h : TimesIn w (fun b => b < w.heap.size) A l) (hl63 : l.length ≤ 9223372036854775807) :
    Calls Tryz.prog 34 #[.slice A l.length c, timeV t] w (Says (.bool (clearM l t)) w) := by
  obtain ⟨k', y', t', l'⟩ := t
  unfold Says timeV
  dsimp only at ht ⊢
  obtain ⟨R, hR⟩ : ∃ R, clearM l (k', y', t', l') = R := ⟨_, rfl⟩
  rw [hR]
  have HR : Hid (clearM (l.drop 0) (k', y', t', l') = R) := hid hR
  have hk := K1.first w k' y' t' l' 26
  have HK := hid hk
  have HH := hid h
  have cO := hid (fun (k y t u : Int) (h : t ≤ 9223372036854775807) (w : World) => roverlap_any k y t u k' y' t' l' w)
  clear hk h hR
  go_enter Tryz.func34, Tryz.ntmps34
  go_wp2
  go_loopw [5] (fun iv wr => ∃ k : Nat, iv = .int .i64 (k : Int) ∧ k ≤ l.length ∧ Hid (clearM (l.drop k) (k', y', t', l') = R) ∧ Hid (K1 w k' y' t' l' wr)) (fun iv _ => l.length - (RowKit.intOf iv).toNat)
  case atStart => exact ⟨0, rfl, Nat.zero_le _, HR, HK⟩
  case round =>
    obtain ⟨k, rfl, hk, hE, hK⟩ := hrel
    by_cases hlt : k < l.length
    · have hltz : (k : Int) < (l.length : Int) := by omega
      have dk : decide (l.length ≤ k) = false := decide_eq_false (by omega)
      have hHH := HH.out.below hK.out.b
      have hle := hHH.le hlt
      obtain ⟨tb, tf, rfl, htb, t0, t1, t2, t3⟩ := hHH.at_ hlt
      have hst := hE.out
      unfold clearM at hst
      rw [List.drop_eq_getElem_cons hlt, List.any_cons, Bool.not_or] at hst
      obtain ⟨⟨a0, a1, a2, a3⟩, ha⟩ : ∃ x, l[k] = x := ⟨_, rfl⟩
      rw [ha] at t0 t1 t2 t3 hle hst
      dsimp only at t0 t1 t2 t3 hle hst
      obtain ⟨O, hO⟩ : ∃ O, overB a0 a1 a2 a3 k' y' t' l' = O := ⟨_, rfl⟩
      have CO := cO.out a0 a1 a2 a3 hle
      unfold Says at CO
      rw [hO] at hst CO
      have HCO := hid CO
      have hKD : Hid (K1 w k' y' t' l' wr.drew) := hid (hK.out.next (Below.refl _ _).drew)
      obtain ⟨g0, g1, g2, g3, _⟩ := id hK.out.x
      have HST := hid hst
      clear ha hO hst CO hHH hle
      go_upto_region 4 with fail
      go_still_tail 5, (by kernel_rfl)
      change wpList _ _ _ _ _ wr.drew
      go_wp2_with fail
      refine (HCO.out _).mono ?_
      rintro e w3 ⟨rfl, hb3⟩
      have HK3 := hid (hKD.out.next hb3)
      clear hb3 g0 g1 g2 g3 t0 t1 t2 t3
      cases O with
      | true =>
        have HRR : Hid (R = false) := hid (by have := HST.out; simpa using this.symm)
        go_wp2
        go_ret
        exact ⟨by rw [HRR.out]; rfl, HK3.out.b⟩
      | false =>
        have HRR : Hid (clearM (l.drop (k + 1)) (k', y', t', l') = R) := hid (by have := HST.out; simpa [clearM] using this)
        go_wp2
        go_roundw
        case rel => exact ⟨k + 1, by go_num, by omega, HRR, HK3⟩
        case measure => simp [RowKit.intOf]; omega
    · have hltz : ¬ (k : Int) < (l.length : Int) := by omega
      have hst := hE.out
      rw [List.drop_of_length_le (by omega)] at hst
      have HRR : Hid (R = true) := hid hst.symm
      clear hst
      go_wp2
      go_ret
      exact ⟨by rw [HRR.out]; rfl, hK.out.b⟩
set_option maxHeartbeats 8000000 in
set_option maxRecDepth 100000 in
theorem rfree_any (x : LectD) (q : LectA) (t : TimeD) (ht : t.2.2.1 ≤ 9223372036854775807) (w : World) (h : LectIn w (fun b => b < w.heap.size) x q) :
    Calls Tryz.prog 11 #[lectV x q, timeV t] w (Says (.bool (clearM x.2 t)) w) := by
  have hX := Box2.new w (.string (ba x.1)) (.slice q.1 x.2.length q.2)
  have hb1 := (Below.refl w.heap.size w).alloc (Nat.le_refl _) (.cells #[.string (ba x.1), .slice q.1 x.2.length q.2] 34)
  have hs1 : (w.alloc (.cells #[.string (ba x.1), .slice q.1 x.2.length q.2] 34)).heap.size = w.heap.size + 1 := by simp
  obtain ⟨w1, hw1⟩ : ∃ w1, w.alloc (.cells #[.string (ba x.1), .slice q.1 x.2.length q.2] 34) = w1 := ⟨_, rfl⟩
  rw [hw1] at hX hb1 hs1
  have hb2 := (Below.refl w1.heap.size w1).alloc (Nat.le_refl _) (.cells #[.int .i64 t.1, .int .i64 t.2.1, .int .i64 t.2.2.1, .int .i64 t.2.2.2] 26)
  obtain ⟨w2, hw2⟩ : ∃ w2, w1.alloc (.cells #[.int .i64 t.1, .int .i64 t.2.1, .int .i64 t.2.2.1, .int .i64 t.2.2.2] 26) = w2 := ⟨_, rfl⟩
  rw [hw2] at hb2
  have hb := hb1.trans (hb2.mono (by omega))
  have cT := rclear_any q.1 x.2 q.2 t ht w2 ((h.t.below hb).mono (fun k hk => Nat.lt_of_lt_of_le hk hb.size)) (Nat.le_trans h.t1 h.t2)
  unfold Says lectV timeV at *
  obtain ⟨R, hR⟩ : ∃ R, clearM x.2 t = R := ⟨_, rfl⟩
  rw [hR] at cT ⊢
  obtain ⟨t0, t1, t2, t3⟩ := t
  obtain ⟨x0, x1⟩ := x
  dsimp only at *
  obtain ⟨F, hF⟩ : ∃ F, x1.length = F := ⟨_, rfl⟩
  obtain ⟨X, hXe⟩ : ∃ X, ba x0 = X := ⟨_, rfl⟩
  rw [hF] at cT ⊢
  rw [hXe] at ⊢
  rw [hF, hXe] at hw1
  have CT := hid cT
  have HB := hid hb
  have HW1 := hid hw1
  have HW2 := hid hw2
  clear cT hX hb1 hb2 hs1 h hR hw1 hw2 ht hb hF hXe
  go_enter Tryz.func11, Tryz.ntmps11
  go_wp2_with fail
  (try rw [HW1.out])
  (try rw [HW2.out])
  refine CT.out.mono ?_
  rintro e w' ⟨rfl, hb3⟩
  have HB3 := hid (HB.out.trans (hb3.mono HB.out.size))
  clear hb3
  go_wp2
  go_ret
  exact ⟨rfl, HB3.out⟩
theorem any_false {p : TimeD → Bool} {l : List TimeD} (h : ∀ j (hj : j < l.length), p l[j] = false) : l.any p = false := by
  rw [List.any_eq_false]
  intro x hx
  obtain ⟨j, hj, rfl⟩ := List.mem_iff_getElem.1 hx
  rw [h j hj]
  simp
theorem any_true {p : TimeD → Bool} {l : List TimeD} (j : Nat) (hj : j < l.length) (h : p l[j] = true) : l.any p = true := List.any_eq_true.2 ⟨_, List.getElem_mem hj, h⟩
set_option maxHeartbeats 16000000 in
set_option maxRecDepth 100000 in
theorem rlvalid_any (d s b m n : Int) (A : Option Addr) (l : List LectD) (c : Nat) (w : World) (h : LectsIn w (fun k => k < w.heap.size) A l) :
    Calls Tryz.prog 14 #[.slice A l.length c, .agg #[.int .i64 d, .int .i64 s, .int .i64 b, .int .i64 m], .int .i64 n] w (Says (.int .i64 (validL d s b m n l)) w) := by
  have cF := fun w => usable_any d s b m n w
  have cU := fun k y t l' w => rfits_any d s b m n k y t l' w
  unfold Says at cF cU ⊢
  obtain ⟨R, hR⟩ : ∃ R, validL d s b m n l = R := ⟨_, rfl⟩
  rw [hR]
  unfold validL at hR
  have hk := K1.first w d s b m 24
  have HK := hid hk
  have HH := hid h
  clear hk h
  cases hf : frameB d s b m n with
  | false =>
    rw [hf] at cF hR
    rw [if_pos rfl] at hR
    subst hR
    clear hf
    go_enter Tryz.func14, Tryz.ntmps14
    go_wp2_with fail
    refine (cF _).mono ?_
    rintro e w1 ⟨rfl, hb⟩
    have hk := HK.out.next hb
    clear hb HK
    go_wp2
    go_ret
    exact ⟨rfl, hk.b⟩
  | true =>
    rw [hf] at cF hR
    rw [if_neg (by simp)] at hR
    by_cases h16 : 32 < l.length
    · rw [if_pos h16] at hR
      subst hR
      have hz : (32 : Int) < (l.length : Int) := by omega
      clear hf
      go_enter Tryz.func14, Tryz.ntmps14
      go_wp2_with fail
      refine (cF _).mono ?_
      rintro e w1 ⟨rfl, hb⟩
      have hk := HK.out.next hb
      clear hb HK
      go_wp2
      go_ret
      exact ⟨rfl, hk.b⟩
    · rw [if_neg h16] at hR
      have hz : ¬ (32 : Int) < (l.length : Int) := by omega
      have HR : Hid (goL d s b m n (codesL (l.take 0)) (l.drop 0) = R) := hid hR
      clear hf hR
      go_enter Tryz.func14, Tryz.ntmps14
      go_wp2_with fail
      refine (cF _).mono ?_
      rintro e w1 ⟨rfl, hb⟩
      have hk := HK.out.next hb
      have HK1 := hid hk
      clear hb HK hk
      go_wp2
      go_loopw [7, 8] (fun iv _ wr => ∃ i : Nat, iv = .int .i64 (i : Int) ∧ i ≤ l.length ∧ Hid (goL d s b m n (codesL (l.take i)) (l.drop i) = R) ∧ Hid (K1 w d s b m wr)) (fun iv _ _ => l.length - (RowKit.intOf iv).toNat)
      case atStart => exact ⟨0, rfl, Nat.zero_le _, HR, hid HK1.out⟩
      case round =>
        obtain ⟨i, rfl, hi, hE, hK⟩ := hrel
        by_cases hlt : i < l.length
        · have hltz : (i : Int) < (l.length : Int) := by omega
          have dk : decide (l.length ≤ i) = false := decide_eq_false (by omega)
          have hst := goL_step d s b m n l i hlt
          rw [hE.out] at hst
          obtain ⟨fb, fo, ⟨A2, c2⟩, rfl, hfb, hri, y0, y1⟩ := (HH.out.below hK.out.b).at_ hlt
          have hci : (codesL l)[i]'(by simpa [codesL] using hlt) = l[i].1 := by simp [codesL]
          have hix := idxG_lt (codesL l) i (by simpa [codesL] using hlt)
          rw [hci, show (codesL l).take i = codesL (l.take i) by simp [codesL, List.map_take]] at hix
          obtain ⟨⟨code, ts⟩, hr⟩ : ∃ r, l[i] = r := ⟨_, rfl⟩
          rw [hr] at hst y0 y1 hri hix
          obtain ⟨ht, ht1, ht2⟩ := hri
          dsimp only at hst y0 y1 ht ht1 ht2 hix
          have cV1 := fun w => S3.refValid_any (ba code) w
          rw [show (ba code).data.toList = code from rfl] at cV1
          have cI : Hid (∀ W, Below w.heap.size w W → Calls Tryz.prog 45 #[.slice (some ⟨fb, fo, none⟩) l.length c, .string (ba code)] W fun e w' => e = .returned (.int .i64 (idxG (codesL l) code 0)) ∧ W = w') :=
            hid (fun W hb => rindex_any (some ⟨fb, fo, none⟩) l c (ba code) W ((HH.out.below hb).mono (fun k hk => Nat.lt_of_lt_of_le hk hb.size)) (by omega))
          have hT : ∀ W, Below w.heap.size w W → TimesIn W (fun b => b < w.heap.size) A2 ts := fun W hb => (ht.kept (fun k hk => (hb.block k hk).trans (hK.out.b.block k hk).symm))
          have hY : ∀ W, Below w.heap.size w W → W.cell? ⟨fb, fo + i * 2, none⟩ = some (.string (ba code)) ∧ W.cell? ⟨fb, fo + i * 2 + 1, none⟩ = some (.slice A2 ts.length c2) := fun W hb => by
            have e := (hb.block fb hfb).trans (hK.out.b.block fb hfb).symm
            exact ⟨(World.cell?_of_block (w := wr) e).trans y0, (World.cell?_of_block (w := wr) e).trans y1⟩
          obtain ⟨V1, hV1⟩ : ∃ V, S3.validC code = V := ⟨_, rfl⟩
          obtain ⟨E, hE2⟩ : ∃ E, lectM d s b m n (code, ts) = E := ⟨_, rfl⟩
          rw [hE2] at hst
          unfold lectM at hE2
          dsimp only at hE2
          rw [hV1] at cV1 hE2
          obtain ⟨X1, hX1⟩ : ∃ X, ba code = X := ⟨_, rfl⟩
          rw [hX1] at y0 cV1 cI hY
          have HIX := hid hix
          have HST := hid hst
          have HT := hid hT
          have HY := hid hY
          have H32 := hid h16
          clear hr hV1 hX1 hst ht ht1 hT hix hci hE hY h16
          cases V1 with
          | false =>
            have HRR : Hid (R = 10) := hid (by have h := HST.out; rw [← hE2] at h; simpa using h)
            clear hE2
            go_wp2_with fail
            refine (cV1 _).mono ?_
            rintro e w' ⟨rfl, rfl⟩
            go_wp2
            go_ret
            rw [HRR.out]
            exact ⟨rfl, hK.out.b⟩
          | true =>
          rw [if_neg (by simp)] at hE2
          by_cases z2 : 24 < ts.length
          · have z2' : (24 : Int) < (ts.length : Int) := by omega
            have z2d : decide ((24 : Int) < (ts.length : Int)) = true := decide_eq_true z2'
            rw [if_pos z2] at hE2
            have HRR : Hid (R = 2) := hid (by have h := HST.out; rw [← hE2] at h; simpa using h)
            clear hE2
            go_wp2_with fail
            refine (cV1 _).mono ?_
            rintro e w' ⟨rfl, rfl⟩
            go_wp2
            go_ret
            rw [HRR.out]
            exact ⟨rfl, hK.out.b⟩
          have z2' : ¬ (24 : Int) < (ts.length : Int) := by omega
          have z2d : decide ((24 : Int) < (ts.length : Int)) = false := decide_eq_false z2'
          rw [if_neg z2] at hE2
          have HE2 := hid hE2
          clear hE2
          go_wp2_with fail
          refine (cV1 _).mono ?_
          rintro e w' ⟨rfl, rfl⟩
          go_wp2
          go_loopw [8] (fun kv wq => ∃ k : Nat, kv = .int .i64 (k : Int) ∧ k ≤ ts.length ∧ Hid (∀ j (hj : j < ts.length), j < k → unfitB d s b m n ts[j] = false) ∧ Hid (K1 w d s b m wq)) (fun kv _ => ts.length - (RowKit.intOf kv).toNat)
          case atStart => exact ⟨0, rfl, Nat.zero_le _, hid (fun j _ h => absurd h (Nat.not_lt_zero _)), hK⟩
          case round =>
            clear y0 y1 hK
            obtain ⟨k, rfl, hk, hall, hK⟩ := hrel
            obtain ⟨y0, y1⟩ := HY.out _ hK.out.b
            by_cases hkl : k < ts.length
            · have hklz : (k : Int) < (ts.length : Int) := by omega
              have dk2 : decide (ts.length ≤ k) = false := decide_eq_false (by omega)
              obtain ⟨tb, tf, rfl, htb, t0, t1, t2, t3⟩ := (HT.out _ hK.out.b).at_ hkl
              have HKD := hid (hK.out.next (Below.refl _ _).drew)
              obtain ⟨_, _, hA2', _, t0', t1', t2', t3'⟩ := (HT.out _ HKD.out.b).at_ hkl
              injection hA2' with hA2'
              injection hA2' with e1 e2 _
              subst e1 e2
              obtain ⟨y0', y1'⟩ := HY.out _ HKD.out.b
              obtain ⟨g0, g1, g2, g3, _⟩ := id hK.out.x
              obtain ⟨g0', g1', g2', g3', _⟩ := id HKD.out.x
              have cU' := fun w => cU ts[k].1 ts[k].2.1 ts[k].2.2.1 ts[k].2.2.2 w
              have hub : unfitB d s b m n ts[k] = decide (fitsM d s b m n ts[k].1 ts[k].2.1 ts[k].2.2.1 ts[k].2.2.2 ≠ 0) := rfl
              obtain ⟨U, hU⟩ : ∃ U, fitsM d s b m n ts[k].1 ts[k].2.1 ts[k].2.2.1 ts[k].2.2.2 = U := ⟨_, rfl⟩
              rw [hU] at cU' hub
              have CU := hid cU'
              have HUB := hid hub
              obtain ⟨n0, hn0⟩ : ∃ n, ts[k].1 = n := ⟨_, rfl⟩
              obtain ⟨n1, hn1⟩ : ∃ n, ts[k].2.1 = n := ⟨_, rfl⟩
              obtain ⟨n2, hn2⟩ : ∃ n, ts[k].2.2.1 = n := ⟨_, rfl⟩
              obtain ⟨n3, hn3⟩ : ∃ n, ts[k].2.2.2 = n := ⟨_, rfl⟩
              rw [hn0] at t0 t0' CU
              rw [hn1] at t1 t1' CU
              rw [hn2] at t2 t2' CU
              rw [hn3] at t3 t3' CU
              clear hn0 hn1 hn2 hn3 hU cU' hub
              go_upto_region 15 with fail
              go_still_tail 10, (by kernel_rfl)
              change wpList _ _ _ _ _ wr.drew
              go_wp2_with fail
              refine (CU.out _).mono ?_
              rintro e w3 ⟨rfl, hb3⟩
              have HK3 := hid (HKD.out.next hb3)
              clear hb3 HKD CU t0 t1 t2 t3 t0' t1' t2' t3' y0 y1 y0' y1' g0 g1 g2 g3 g0' g1' g2' g3'
              by_cases hU0 : U = 0
              · have u1 : (U != 0) = false := by simpa using hU0
                have u2 : (U == 0) = true := by simpa using hU0
                have HA2 : Hid (∀ j (hj : j < ts.length), j < k + 1 → unfitB d s b m n ts[j] = false) := hid (fun j hj hjk => by
                  by_cases e : j = k
                  · subst e
                    rw [HUB.out]
                    exact decide_eq_false (fun h => h hU0)
                  · exact hall.out j hj (by omega))
                clear hU0
                go_wp2
                go_roundw
                case rel => exact ⟨k + 1, by go_num, by omega, HA2, HK3⟩
                case measure => simp [RowKit.intOf]; omega
              · have u1 : (U != 0) = true := by simpa using hU0
                have u2 : (U == 0) = false := by simpa using hU0
                have hE3 := HE2.out
                rw [if_pos (any_true k hkl (by rw [HUB.out]; exact decide_eq_true hU0))] at hE3
                have HRR : Hid (R = 14) := hid (by have h := HST.out; rw [← hE3] at h; simpa using h)
                clear hU0 hE3
                go_wp2
                go_ret
                rw [HRR.out]
                exact ⟨rfl, HK3.out.b⟩
            · have hklz : ¬ (k : Int) < (ts.length : Int) := by omega
              have hE3 := HE2.out
              rw [if_neg (by rw [any_false (fun j hj => hall.out j hj (by omega))]; simp)] at hE3
              have HST2 : Hid (R = if code ∈ codesL (l.take i) then 11 else goL d s b m n (codesL (l.take (i + 1))) (l.drop (i + 1))) := hid (by have h := HST.out; rw [← hE3] at h; simpa using h)
              clear hE3
              have cI' := cI.out _ hK.out.b
              obtain ⟨J, hJ⟩ : ∃ J, idxG (codesL l) code 0 = J := ⟨_, rfl⟩
              have hix := HIX.out
              rw [hJ] at cI' hix
              have CI := hid cI'
              clear cI' hJ
              by_cases hm : code ∈ codesL (l.take i)
              · have hJi : J < (i : Int) := hix.2 hm
                have hJd : decide (J < (i : Int)) = true := decide_eq_true hJi
                have HRR : Hid (R = 11) := hid (by have h := HST2.out; rw [if_pos hm] at h; exact h)
                clear hix hm
                go_wp2_with fail
                refine CI.out.mono ?_
                rintro e w' ⟨rfl, rfl⟩
                go_wp2
                go_ret
                rw [HRR.out]
                exact ⟨rfl, hK.out.b⟩
              · have hJi : ¬ J < (i : Int) := fun h => hm (hix.1 h)
                have hJd : decide (J < (i : Int)) = false := decide_eq_false hJi
                have HRR : Hid (goL d s b m n (codesL (l.take (i + 1))) (l.drop (i + 1)) = R) := hid (by have h := HST2.out; rw [if_neg hm] at h; exact h.symm)
                clear hix hm
                go_wp2_with fail
                refine CI.out.mono ?_
                rintro e w' ⟨rfl, rfl⟩
                go_wp2
                go_roundw
                case rel => exact ⟨i + 1, by go_num, by omega, HRR, hK⟩
                case measure => simp [RowKit.intOf]; omega
        · have hltz : ¬ (i : Int) < (l.length : Int) := by omega
          have hn : Hid (R = 0) := hid (by rw [← hE.out, List.drop_of_length_le (by omega)]; rfl)
          go_wp2
          go_ret
          rw [hn.out]
          exact ⟨rfl, hK.out.b⟩
abbrev RowA := List Str × (Option Addr × Nat)
def rowV (p : RowA) : Value := .slice p.2.1 p.1.length p.2.2
def RowsRow (w : World) (B : Nat) (v : Value) (L : List RowA) : Prop := w.ownsRow B 58 1 v L.length (L.map rowV) ∧
  ∀ p ∈ L, S3.StrsIn w (fun b => B ≤ b ∧ b < w.heap.size ∧ v.ownBlock ≠ some b) p.2.1 p.1 ∧ p.1.length ≤ p.2.2 ∧ p.2.2 ≤ 9223372036854775807
theorem RowsRow.nil (w : World) (B : Nat) : RowsRow w B (.slice none 0 0) [] := ⟨World.ownsRow_nil _ _ _ _, fun p hp => by simp at hp⟩
theorem RowsRow.rowsIn {w : World} {B : Nat} {v : Value} {L : List RowA} (h : RowsRow w B v L) : ∃ A c, v = .slice A L.length c ∧ L.length ≤ c ∧ c ≤ 9223372036854775807 ∧ RowsIn w (fun b => B ≤ b ∧ b < w.heap.size) A (L.map (·.1)) := by
  obtain ⟨h, hL⟩ := h
  have h' := h
  rcases h.2 with ⟨hv, h0⟩ | ⟨g, cap, cur, hv, hB, hg, h1, h2, _⟩
  · have hl : L = [] := List.eq_nil_of_length_eq_zero h0
    subst hl
    exact ⟨none, 0, by rw [hv]; rfl, Nat.le_refl _, by omega, .inl rfl⟩
  · refine ⟨_, cap, hv, h1, by unfold maxLen at h2; omega, .inr ⟨g, 0, rfl, ⟨hB, (Array.getElem?_eq_some_iff.1 hg).1⟩, fun j l hj => ?_⟩⟩
    rw [List.getElem?_map] at hj
    obtain ⟨p, hp, rfl⟩ := Option.map_eq_some_iff.1 hj
    obtain ⟨f1, f2, f3⟩ := hL p (List.mem_of_getElem? hp)
    refine ⟨p.2.1, p.2.2, ?_, f2, f3, f1.mono (fun b hb => ⟨hb.1, hb.2.1⟩)⟩
    have := World.ownsRow.cells h' (g := g) (by rw [hv]; rfl) j (rowV p) (by rw [List.getElem?_map, hp]; rfl)
    rw [Addr.add_lit] at this
    exact this
theorem RowsRow.snoc {w w1 w2 w3 w4 : World} {B : Nat} {v v' : Value} {L : List RowA} {l : List Str} {A : Option Addr} {c : Nat} (h : RowsRow w B v L) (hBw : B ≤ w1.heap.size) (h1 : Below w.heap.size w w1) (hb : Below w1.heap.size w1 w2) (hr : S3.StrRow w2 w1.heap.size (.slice A l.length c) l)
    (h3 : Below w2.heap.size w2 w3) (hown' : w4.ownsRow B 58 1 v' (L.length + 1) (L.map rowV ++ [.slice A l.length c])) (hg : w3.grownBy w4 v.ownBlock) (hat : v'.ownBlock = v.ownBlock ∨ v'.ownBlock = some w3.heap.size) : RowsRow w4 B v' (L ++ [(l, A, c)]) := by
  have hs1 := h1.size
  have hs2 := hb.size
  have hs3 := h3.size
  have hs4 := hg.size
  have hvl : ∀ g, v.ownBlock = some g → g < w.heap.size := fun g hg => (World.ownsRow.lt h.1 g hg).2
  refine ⟨by rw [List.map_append, List.length_append, List.length_singleton]; exact hown', fun p hp => ?_⟩
  rcases List.mem_append.1 hp with hp | hp
  · obtain ⟨f1, f2, f3⟩ := h.2 p hp
    refine ⟨S3.StrsIn.mono (f1.kept (w' := w4) (fun b hb' => ?_)) (fun b hb' => ⟨hb'.1, by omega, ?_⟩), f2, f3⟩
    · obtain ⟨k1, k2, k3⟩ := hb'
      rw [hg.block b (by omega) (fun e => k3 e.symm), h3.block b (by omega), hb.block b (by omega), h1.block b k2]
    · obtain ⟨k1, k2, k3⟩ := hb'
      intro e
      rcases hat with ha | ha
      · rw [ha] at e; exact k3 e
      · rw [ha] at e
        injection e with e
        omega
  · rw [List.mem_singleton] at hp
    subst hp
    obtain ⟨A5, c5, eA, hl5, hc5, hI5⟩ := hr.strsIn
    obtain ⟨rfl, rfl⟩ : A = A5 ∧ c = c5 := by injection eA with e1 _ e3; exact ⟨e1, e3⟩
    refine ⟨S3.StrsIn.mono (hI5.kept (w' := w4) (fun b hb' => ?_)) (fun b hb' => ⟨by omega, by omega, ?_⟩), hl5, hc5⟩
    · rw [hg.block b (by omega) (fun e => by have := hvl b e.symm; omega), h3.block b (by omega)]
    · intro e
      rcases hat with ha | ha
      · rw [ha] at e
        have := hvl b e
        omega
      · rw [ha] at e
        injection e with e
        omega
theorem infoStrs7 : (Tryz.prog.info? 58).map (fun i => (i.zero, i.size, i.bytes)) = some (some (.slice none 0 0), 1, 24) := by kernel_rfl
theorem one_slice (A : Option Addr) (n c : Nat) : ∀ u ∈ [Value.slice A n c], u.oneCell' = true := by
  intro u hu
  rw [List.mem_singleton] at hu
  subst hu
  rfl
def WriteOut (o : List (List Str) × Int) (w : World) (e : Ending) (w' : World) : Prop := (∃ v L, L.map (·.1) = o.1 ∧ e = .returned (.tuple #[v, .int .i64 o.2]) ∧ RowsRow w' w.heap.size v L) ∧ Below w.heap.size w w'
theorem RowsRow.low {w : World} {B B' : Nat} {v : Value} {L : List RowA} (h : RowsRow w B v L) (hB : B' ≤ B) : RowsRow w B' v L := by
  refine ⟨?_, fun p hp => ?_⟩
  · refine ⟨h.1.1, ?_⟩
    rcases h.1.2 with k | ⟨g, cap, cur, k1, k2, k3⟩
    · exact .inl k
    · exact .inr ⟨g, cap, cur, k1, by omega, k3⟩
  · obtain ⟨f1, f2, f3⟩ := h.2 p hp
    exact ⟨f1.mono (fun b hb => ⟨by omega, hb.2⟩), f2, f3⟩
set_option maxHeartbeats 8000000 in
set_option maxRecDepth 100000 in
theorem lfields_any (d s b m n : Int) (x : LectD) (q : LectA) (w : World) (h : LectIn w (fun k => k < w.heap.size) x q) (hl : x.2.length ≤ 24) (hE : Env7 w) :
    Calls Tryz.prog 31 #[lectV x q, .agg #[.int .i64 d, .int .i64 s, .int .i64 b, .int .i64 m], .int .i64 n] w (S3.RowOut (rowL d s b m n x) w) := by
  obtain ⟨code, ts⟩ := x
  obtain ⟨A2, c2⟩ := q
  obtain ⟨ht, ht1, ht2⟩ := h
  dsimp only at ht ht1 ht2 hl
  unfold lectV rowL S3.RowOut
  dsimp only
  have hk0 := KL.first w d s b m (.string (ba code)) (.slice A2 ts.length c2) 24
  have cT := hid (fun (w' : World) (hb : Below w.heap.size w w') => writeTimes_any d s b m n A2 ts c2 w.heap.size w' hb.size (ht.below hb) hl (hE.below hb (Nat.le_refl _)))
  have cT' := cT.out
  unfold Says at cT'
  obtain ⟨X1, hX1⟩ : ∃ X, ba code = X := ⟨_, rfl⟩
  obtain ⟨X5, hX5⟩ : ∃ X, ba (timesS d s b m n ts) = X := ⟨_, rfl⟩
  have hrow : Hid (S3.strVals [code, timesS d s b m n ts] = [.string X1, .string X5]) := hid (by rw [← hX1, ← hX5]; rfl)
  rw [hX1] at hk0
  rw [hX5] at cT'
  rw [hX1]
  obtain ⟨T1, hT1⟩ : ∃ F, ts.length = F := ⟨_, rfl⟩
  rw [hT1] at hk0 cT' ⊢
  have CT := hid cT'
  have HK0 := hid hk0
  clear ht cT cT' hX1 hX5 hT1 hk0 hE ht1 hl
  go_enter Tryz.func31, Tryz.ntmps31
  go_wp2_with fail
  have hk := HK0.out
  clear HK0
  generalize World.alloc _ _ = wx at hk ⊢
  have HK1 := hid hk
  clear hk
  refine wp_region_held_drew (S := KL w d s b m (.string X1) (.slice A2 T1 c2)) (by kernel_rfl) (HK1.out.next (Below.refl _ _).drew) (fun hHeld => ?_)
  (refine wpAnyH_take (i := 0) (oi := _) (v := ?_) rfl (by kernel_rfl) (by kernel_rfl) (by kernel_rfl) (fun _ _ _ h => h) (Or.inl ⟨by rfl, ?_⟩) (by assumption) ?_; rotate_left; (intro wS hSw; obtain ⟨⟨x0, x1⟩, ⟨g0, g1, g2, g3, _⟩⟩ := And.intro hSw.x.cells hSw.g; (try simp only [List.getElem_toArray, List.getElem_cons_zero]); go_simp; (try with_reducible rfl)))
  try simp only [List.getElem_toArray, List.getElem_cons_zero, Act.put, List.setIfInBounds_toArray, List.set_cons_zero, List.set_cons_succ]
  (refine wpAnyH_take (i := 1) (oi := _) (v := ?_) rfl (by kernel_rfl) (by kernel_rfl) (by kernel_rfl) (fun _ _ _ h => h) (Or.inl ⟨by rfl, ?_⟩) (by assumption) ?_; rotate_left; (intro wS hSw; obtain ⟨⟨x0, x1⟩, ⟨g0, g1, g2, g3, _⟩⟩ := And.intro hSw.x.cells hSw.g; (try simp only [List.getElem_toArray, List.getElem_cons_succ, List.getElem_cons_zero]); go_simp; (try with_reducible rfl)))
  try simp only [List.getElem_toArray, List.getElem_cons_succ, List.getElem_cons_zero, Act.put, List.setIfInBounds_toArray, List.set_cons_zero, List.set_cons_succ]
  (refine wpAnyH_take (i := 2) (oi := _) (v := ?_) rfl (by kernel_rfl) (by kernel_rfl) (by kernel_rfl) (fun _ _ _ h => h) (Or.inl ⟨by rfl, ?_⟩) (by assumption) ?_; rotate_left; (intro wS hSw; obtain ⟨⟨x0, x1⟩, ⟨g0, g1, g2, g3, _⟩⟩ := And.intro hSw.x.cells hSw.g; (try simp only [List.getElem_toArray, List.getElem_cons_succ, List.getElem_cons_zero]); go_simp; (try with_reducible rfl)))
  try simp only [List.getElem_toArray, List.getElem_cons_succ, List.getElem_cons_zero, Act.put, List.setIfInBounds_toArray, List.set_cons_zero, List.set_cons_succ]
  (refine wpAnyH_take (i := 3) (oi := _) (v := ?_) rfl (by kernel_rfl) (by kernel_rfl) (by kernel_rfl) (fun _ _ _ h => h) (Or.inl ⟨by rfl, ?_⟩) (by assumption) ?_; rotate_left; (intro wS hSw; obtain ⟨⟨x0, x1⟩, ⟨g0, g1, g2, g3, _⟩⟩ := And.intro hSw.x.cells hSw.g; (try simp only [List.getElem_toArray, List.getElem_cons_succ, List.getElem_cons_zero]); go_simp; (try with_reducible rfl)))
  try simp only [List.getElem_toArray, List.getElem_cons_succ, List.getElem_cons_zero, Act.put, List.setIfInBounds_toArray, List.set_cons_zero, List.set_cons_succ]
  (refine wpAnyH_take (i := 4) (oi := _) (v := ?_) rfl (by kernel_rfl) (by kernel_rfl) (by kernel_rfl) (fun _ _ _ h => h) (Or.inl ⟨by rfl, ?_⟩) (by assumption) ?_; rotate_left; (intro wS hSw; obtain ⟨⟨x0, x1⟩, ⟨g0, g1, g2, g3, _⟩⟩ := And.intro hSw.x.cells hSw.g; (try simp only [List.getElem_toArray, List.getElem_cons_succ, List.getElem_cons_zero]); go_simp; (try with_reducible rfl)))
  try simp only [List.getElem_toArray, List.getElem_cons_succ, List.getElem_cons_zero, Act.put, List.setIfInBounds_toArray, List.set_cons_zero, List.set_cons_succ]
  (refine wpAnyH_take (i := 5) (oi := _) (v := ?_) rfl (by kernel_rfl) (by kernel_rfl) (by kernel_rfl) (fun _ _ _ h => h) (Or.inl ⟨by rfl, ?_⟩) (by assumption) ?_; rotate_left; (intro wS hSw; obtain ⟨⟨x0, x1⟩, ⟨g0, g1, g2, g3, _⟩⟩ := And.intro hSw.x.cells hSw.g; (try simp only [List.getElem_toArray, List.getElem_cons_succ, List.getElem_cons_zero]); go_simp; (try with_reducible rfl)))
  try simp only [List.getElem_toArray, List.getElem_cons_succ, List.getElem_cons_zero, Act.put, List.setIfInBounds_toArray, List.set_cons_zero, List.set_cons_succ]
  (refine wpAnyH_ready (rs := [6]) (by kernel_rfl) (by simp) ?_; refine AllReadyH.cons (o := _) rfl (fun K hK => ?_) AllReadyH.nil; (try simp only [List.getElem_toArray, List.getElem_cons_succ, List.getElem_cons_zero]); go_simp; go_at_call 56; refine (CT.out _ hHeld.b).mono ?_; rintro e w3 ⟨rfl, hb3⟩; have hHeld := hHeld.next hb3; have HW3 := hid hHeld.b.size; clear hb3; go_wp2_with fail; refine hK.out _ _ hHeld (fun hHeld => ?_); clear hK K)
  try simp only [List.getElem_toArray, List.getElem_cons_succ, List.getElem_cons_zero, Act.put, List.setIfInBounds_toArray, List.set_cons_zero, List.set_cons_succ]
  (refine wpAnyH_ready (rs := [7]) (by kernel_rfl) (by simp) ?_; refine AllReadyH.cons (o := _) rfl (fun K hK => ?_) AllReadyH.nil; (try simp only [List.getElem_toArray, List.getElem_cons_succ, List.getElem_cons_zero]); go_simp; go_wp2_with fail; refine hK.out _ _ (hHeld.next ((Below.refl _ _).alloc (Nat.le_refl _) _)) (fun hHeld => ?_); clear hK K)
  try simp only [List.getElem_toArray, List.getElem_cons_succ, List.getElem_cons_zero, Act.put, List.setIfInBounds_toArray, List.set_cons_zero, List.set_cons_succ]
  (refine wpAnyH_take (i := 8) (oi := _) (v := ?_) rfl (by kernel_rfl) (by kernel_rfl) (by kernel_rfl) (fun _ _ _ h => h) (Or.inl ⟨by rfl, ?_⟩) (by assumption) ?_; rotate_left; (intro wS hSw; obtain ⟨⟨x0, x1⟩, ⟨g0, g1, g2, g3, _⟩⟩ := And.intro hSw.x.cells hSw.g; (try simp only [List.getElem_toArray, List.getElem_cons_succ, List.getElem_cons_zero]); go_simp; (try with_reducible rfl)))
  try simp only [List.getElem_toArray, List.getElem_cons_succ, List.getElem_cons_zero, Act.put, List.setIfInBounds_toArray, List.set_cons_zero, List.set_cons_succ]
  refine wpAnyH_done (by kernel_rfl) ?_ _
  go_wp2_with fail
  go_ret
  refine ⟨⟨_, rfl, ?_⟩, hHeld.b⟩
  unfold S3.StrRow
  rw [hrow.out]
  exact World.ownsRow_lit w3 #[.string X1, .string X5] 2 HW3.out (by decide) rfl
set_option maxHeartbeats 16000000 in
set_option maxRecDepth 100000 in
theorem lwrite_any (d s b m n : Int) (A : Option Addr) (l : List LectD) (c : Nat) (w : World) (h : LectsIn w (fun k => k < w.heap.size) A l) (hE : Env7 w) :
    Calls Tryz.prog 8 #[.slice A l.length c, .agg #[.int .i64 d, .int .i64 s, .int .i64 b, .int .i64 m], .int .i64 n] w (WriteOut (writeL d s b m n l) w) := by
  obtain ⟨iS, hiS, hzS, hsS, hbS⟩ := info_parts infoStrs7
  unfold WriteOut writeL
  have hk := K1.first w d s b m 24
  have HK := hid hk
  have HH := hid (fun (w' : World) (hb : Below w.heap.size w w') => h.below hb)
  have HE := hid (fun (w' : World) (hb : Below w.heap.size w w') => hE.below hb (Nat.le_refl _))
  have cV : Hid (∀ w', Below w.heap.size w w' → Calls Tryz.prog 13 #[.slice A l.length c, .agg #[.int .i64 d, .int .i64 s, .int .i64 b, .int .i64 m], .int .i64 n] w' (Says (.int .i64 (validL d s b m n l)) w')) :=
    hid (fun w' hb => lvalid_any d s b m n A l c w' ((h.below hb).mono (fun k hk => Nat.lt_of_lt_of_le hk hb.size)))
  have cV' := cV.out
  unfold Says at cV'
  obtain ⟨R, hR⟩ : ∃ R, validL d s b m n l = R := ⟨_, rfl⟩
  rw [hR] at cV' ⊢
  have CV := hid cV'
  clear hk h hE cV cV'
  by_cases hR0 : R = 0
  · subst hR0
    obtain ⟨h16, hok⟩ := validL_ok hR
    have HOK := hid hok
    rw [if_neg (by simp)]
    clear hR hok
    go_enter Tryz.func8, Tryz.ntmps8
    go_wp2_with fail
    refine (CV.out _ HK.out.b).mono ?_
    rintro e w1 ⟨rfl, hb⟩
    have HK1 := hid (HK.out.next hb)
    clear hb HK CV
    go_wp2
    go_loopw [9, 11, 21] (fun v _ iv wr => ∃ (i : Nat) (L : List RowA), iv = .int .i64 (i : Int) ∧ i ≤ l.length ∧ Hid (L.map (·.1) = (l.take i).map (rowL d s b m n)) ∧ Hid (RowsRow wr (w.heap.size + 1) v L) ∧ Hid (K1 w d s b m wr)) (fun _ _ iv _ => l.length - (RowKit.intOf iv).toNat)
    case atStart => exact ⟨0, [], rfl, Nat.zero_le _, hid rfl, hid (RowsRow.nil _ _), hid HK1.out⟩
    case round =>
      obtain ⟨i, L, rfl, hi, hL, hrow, hK⟩ := hrel
      obtain ⟨Ar, cr, hvr, _⟩ := hrow.out.rowsIn
      subst hvr
      have hLl : L.length = i := by
        have := congrArg List.length hL.out
        rw [List.length_map, List.length_map, List.length_take] at this
        omega
      have HLL := hid hLl
      clear hLl
      by_cases hlt : i < l.length
      · have hltz : (i : Int) < (l.length : Int) := by omega
        obtain ⟨fb, fo, q, rfl, hfb, hri, y0, y1⟩ := (HH.out _ hK.out.b).at_ hlt
        have hroom := HOK.out _ (List.getElem_mem hlt)
        have hst : (l.take (i + 1)).map (rowL d s b m n) = L.map (·.1) ++ [rowL d s b m n l[i]] := by rw [hL.out, List.take_succ_eq_append_getElem hlt, List.map_append]; rfl
        have cW : ∀ W, Below wr.heap.size wr W → Calls Tryz.prog 31 #[lectV l[i] q, .agg #[.int .i64 d, .int .i64 s, .int .i64 b, .int .i64 m], .int .i64 n] W (S3.RowOut (rowL d s b m n l[i]) W) :=
          fun W hb => lfields_any d s b m n l[i] q W ((hri.below (hb.mono hK.out.b.size)).mono (fun k hk => Nat.lt_of_lt_of_le hk (Nat.le_trans hK.out.b.size hb.size))) (lectM_len hroom) (HE.out W (hK.out.b.trans (hb.mono hK.out.b.size)))
        obtain ⟨RW, hRW⟩ : ∃ r, rowL d s b m n l[i] = r := ⟨_, rfl⟩
        rw [hRW] at cW hst
        obtain ⟨⟨code, ts⟩, hr⟩ : ∃ r, l[i] = r := ⟨_, rfl⟩
        rw [hr] at y0 y1 cW
        dsimp only at y0 y1
        unfold lectV S3.RowOut at cW
        dsimp only at cW
        obtain ⟨X1, hX1⟩ : ∃ X, ba code = X := ⟨_, rfl⟩
        obtain ⟨T1, hT1⟩ : ∃ F, ts.length = F := ⟨_, rfl⟩
        rw [hX1] at y0 cW
        rw [hT1] at y1 cW
        have hb1 := (Below.refl wr.heap.size wr).alloc (Nat.le_refl _) (.cells #[.string X1, .slice q.1 T1 q.2] 34)
        have hK1 := hK.out.next hb1
        obtain ⟨g0, g1, g2, g3, _⟩ := id hK1.x
        have CW := hid (cW _ hb1)
        have HB1 := hid hb1
        have HK2 := hid hK1
        have HST := hid hst
        clear hr hRW hX1 hT1 hb1 hK1 cW hst hri hroom hfb
        go_wp2_with fail
        generalize wr.alloc (.cells #[.string X1, .slice q.1 T1 q.2] 34) = w1 at HB1 HK2 CW g0 g1 g2 g3 ⊢
        refine CW.out.mono ?_
        rintro e w2 ⟨⟨vi, rfl, hrowi⟩, hb2⟩
        obtain ⟨Ai, ci, rfl, hl5, hc5, _⟩ := hrowi.strsIn
        have HB2 := hid hb2
        have HK3 := hid (HK2.out.next hb2)
        have HRowi := hid hrowi
        have hrow2 : w2.ownsRow (w.heap.size + 1) 58 1 (.slice Ar L.length cr) L.length (L.map rowV) := row_under (row_under hrow.out.1 HB1.out) HB2.out
        have HRow2 := hid hrow2
        have HC3 : Hid (L.length + 1 ≤ maxLen) := by unfold maxLen; exact hid (by have := HLL.out; omega)
        have HC4 : Hid ((L.length + 1) * 24 ≤ 140737488355328) := hid (by have := HLL.out; omega)
        have HC5 : Hid (∀ o : Obj, w.heap.size + 1 ≤ (w2.alloc o).heap.size) := hid (fun o => by have := HK3.out.x.lt; simp; omega)
        clear hb2 hrowi hrow2 g0 g1 g2 g3 y0 y1 hl5 hc5
        go_wp2_with (at_builtin; refine wpList_append_own_at _ rfl _ _ 27 rfl (w.heap.size + 1) 58 iS (.slice none 0 0) 1 24 Tryz.underlying27 hiS hzS hsS hbS rfl (by decide) _ L.length (L.map rowV) rfl (World.ownsRow.alloc HRow2.out _) ⟨w2.heap.size, 0, none⟩ 1 1 [.slice Ai RW.length ci] rfl rfl (one_new _ _ _) (one_slice _ _ _) HC3.out HC4.out (HC5.out _) ?_)
        intro v' w4 hown' hgrow _ hat
        have hsn := RowsRow.snoc hrow.out (by have := HK2.out.x.lt; omega) HB1.out HB2.out HRowi.out ((Below.refl w2.heap.size w2).alloc (Nat.le_refl _) _) hown' hgrow (hat.imp id (fun h => h.trans (by simp)))
        have hg' := grownBy_of_alloc hgrow
        have hb24 : Below w.heap.size w2 w4 := (Below.refl _ w2).grown hg' HK3.out.b.size (fun k hk => by have := (World.ownsRow.lt HRow2.out k hk).1; omega)
        have hx4 : Box4 w4 w.heap.size d s b m := by
          have kc : ∀ o : Nat, w4.cell? ⟨w.heap.size, o, none⟩ = w2.cell? ⟨w.heap.size, o, none⟩ := fun o => World.cell?_of_block (w := w2) (hg'.block _ HK3.out.x.lt (fun e => by have := (World.ownsRow.lt HRow2.out _ e.symm).1; have e2 : w.heap.size + 1 ≤ w.heap.size := this; omega))
          have hx := HK3.out.x
          exact ⟨(kc 0).trans hx.c0, (kc 1).trans hx.c1, (kc 2).trans hx.c2, (kc 3).trans hx.c3, Nat.lt_of_lt_of_le hx.lt hg'.size⟩
        have HK4 : Hid (K1 w d s b m w4) := hid ⟨hx4, HK3.out.b.trans hb24⟩
        have HSN := hid hsn
        have HL2 : Hid ((L ++ [(RW, Ai, ci)]).map (·.1) = (l.take (i + 1)).map (rowL d s b m n)) := hid (by rw [HST.out, List.map_append]; rfl)
        clear hx4 hb24 hg' hgrow hown' hsn hat
        go_wp2_with fail
        go_roundw
        case rel => exact ⟨i + 1, L ++ [(RW, Ai, ci)], by go_num, by omega, HL2, HSN, HK4⟩
        case measure => simp [RowKit.intOf]; omega
      · have hltz : ¬ (i : Int) < (l.length : Int) := by omega
        have hL2 : Hid (L.map (·.1) = l.map (rowL d s b m n)) := hid (by rw [hL.out, List.take_of_length_le (by omega)])
        go_wp2
        go_ret2
        exact ⟨⟨_, L, hL2.out, rfl, hrow.out.low (by omega)⟩, hK.out.b⟩
  · have hR1 : (R != 0) = true := by simpa using hR0
    have hR2 : (R == 0) = false := by simpa using hR0
    rw [if_pos hR0]
    clear hR
    go_enter Tryz.func8, Tryz.ntmps8
    go_wp2_with fail
    refine (CV.out _ HK.out.b).mono ?_
    rintro e w1 ⟨rfl, hb⟩
    have HK1 := hid (HK.out.next hb)
    clear hb HK CV
    go_wp2
    go_ret2
    exact ⟨⟨_, [], rfl, rfl, RowsRow.nil _ _⟩, HK1.out.b⟩
end Go.Proofs.YtnpfmoalgphkcaaGreatDoor
