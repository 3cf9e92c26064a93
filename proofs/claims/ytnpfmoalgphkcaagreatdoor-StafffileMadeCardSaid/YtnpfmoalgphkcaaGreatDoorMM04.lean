/-
  Cutting at a sign; numbers of at most two digits: Read of numerals. Conditions: the library's variable holds an error. A number or two with '-' between: .. Conditions: as stated.
-/
import Derived.Test.YtnpfmoalgphkcaaGreatDoorMM01
import Derived.Test.YtnpfmoalgphkcaaGreatDoorMM02
import Derived.Test.YtnpfmoalgphkcaaGreatDoorMM03
import Derived.Test.YtnpfmoalgphkcaaGreatDoorProg
import Derived.WalkKit
import Derived.WalkSpells
import Derived.WalkLawsBesides
import Derived.Lib.Hide
import Derived.Deep.QuietTactic
import Derived.BigQuiet
import Derived.Laws.Rows
import Derived.OwnWalk
import Derived.Lib.BufferWrite
import Derived.Lib.UnsafeStr
import Derived.Laws.IdiomStrings
import Derived.Laws.BytesArg
import Derived.Laws.BytesString
import Derived.Laws.OwnMore
import Derived.Lib.IndexLaws
import Derived.Lib.ItoaNum
import Derived.Lib.Atoi
import Derived.Laws.BitsAllLaws
import Derived.Laws.BitsLemmas
import Derived.Deep.MidRow
import Derived.Shelf.Strings.Builder1
import Derived.Shelf.Strings.Builder2
import Derived.Shelf.Strings.OnBuilder
import Derived.Shelf.Strings.BuilderF
import Derived.Shelf.Strings.BuilderK
import Derived.Shelf.Strings.Builder2Cap
import Derived.Shelf.Strconv.Atoi
import Derived.Shelf.Strconv.Itoa0
import Derived.Shelf.Strconv.Itoa1
import Derived.Shelf.LaysM
import Derived.Shelf.Strconv.Itoa2
import Derived.Shelf.Strconv.Itoa3
import Derived.Shelf.Strconv.AtoiErrFast
import Derived.Shelf.Strconv.ParseIntEmpty
import Derived.Shelf.Strconv.AtoiFail
import Derived.Shelf.Strconv.Clone
import Derived.Shelf.Strconv.SyntaxError
import Derived.Shelf.LaysC
import Derived.Shelf.Strconv.ToError
import Derived.Shelf.Strconv.AtoiErr
import Derived.Shelf.Strings.Search1
import Derived.Shelf.Strings.Search2
import Derived.Shelf.Strings.Search3
import Derived.Shelf.Strings.Cut
import Derived.Shelf.Strings.Shaped
import Derived.Shelf.Strings.Prefix
import Derived.Shelf.Unicode.DecodeSlow
import Derived.Shelf.Strings.BuilderCap
import Derived.Lib.AtoiErrMem
import Derived.Handy
set_option linter.unusedVariables false
namespace Go.Proofs.YtnpfmoalgphkcaaGreatDoor
open Go Go.Proofs Go.RowKit Go.Lib
structure Env (w : World) : Prop where
  names : Names w
  ev : ∃ ev, w.cell? ⟨9, 0, none⟩ = some ev ∧ (ev = .nilIface ∨ ∃ te pe, ev = .iface te pe)
  size : 9 < w.heap.size
theorem Env.below {w w' : World} (h : Env w) {B : Nat} (hb : Below B w w') (hB : 9 < B) : Env w' := by
  obtain ⟨ev, he, hk⟩ := h.ev
  have hs := h.size
  exact ⟨fun j v hj => (hb.cell (p := ⟨4, j, none⟩) (by show 4 < B; omega)).trans (h.names j v hj),
    ⟨ev, (hb.cell (p := ⟨9, 0, none⟩) (by show 9 < B; omega)).trans he, hk⟩, Nat.le_trans hs hb.size⟩
theorem Words.below {w w' : World} (h : Words w) {B : Nat} (hb : Below B w w') (hB : 9 < B) : Words w' :=
  fun k hk => (hb.cell (p := ⟨3, k, none⟩) (by show 3 < B; omega)).trans (h k hk)
theorem bef_ext (s : ByteArray) (c : UInt8) (hc : has c (lst s) = true) : s.extract 0 (bef c (lst s)).length = ba (bef c (lst s)) := by
  rw [← ba_lst (s.extract 0 (bef c (lst s)).length), lst_extract, List.drop_zero, bef_take]
theorem aft_ext (s : ByteArray) (c : UInt8) (hc : has c (lst s) = true) : s.extract ((bef c (lst s)).length + 1) s.size = ba (aft c (lst s)) := by
  rw [← ba_lst (s.extract _ _), lst_extract, List.take_of_length_le (by rw [← Lib.size_eq]; exact Nat.le_refl _), aft_drop c _ hc]
def CutOut (c : UInt8) (s : ByteArray) (w : World) (e : Ending) (w' : World) : Prop :=
  e = .returned (.tuple #[.string (ba (bef c (lst s))), .string (ba (aft c (lst s))), .bool (has c (lst s))]) ∧ ∃ n, w' = w.drewN n
set_option maxHeartbeats 1000000 in
theorem cut49 (s : ByteArray) (c : UInt8) (hs : s.size ≤ 4611686018427387904) (w : World) : Calls Tryz.prog 139 #[.string s, .string ⟨#[c]⟩] w (CutOut c s w) := by
  unfold CutOut
  have cI := fun w => Tryz.stringslite_Index_one s c w
  have hi := indexByte_bef c (lst s)
  have hle := bef_le c (lst s)
  rw [show (lst s).length = s.size from (Lib.size_eq s).symm] at hle
  rw [show Lib.indexByte s.data.toList c = Lib.indexByte (lst s) c from rfl] at cI
  cases hc : has c (lst s) with
  | false =>
    obtain ⟨e1, e2⟩ := bef_miss c (lst s) hc
    rw [e1, e2, ba_lst]
    rw [hc, if_neg (by decide)] at hi
    rw [hi] at cI
    clear hi e1 e2 hc hle
    go_enter Tryz.func139, Tryz.ntmps139
    go_wp2_with (go_at_call 138; refine (cI _).mono ?_; rintro e w' ⟨rfl, rfl⟩)
    go_ret3
    exact ⟨rfl, 0, rfl⟩
  | true =>
    rw [hc, if_pos rfl] at hi
    have h0 := congrArg List.length (bef_hit c (lst s) hc)
    simp only [List.length_append, List.length_cons] at h0
    rw [show (lst s).length = s.size from (Lib.size_eq s).symm] at h0
    have v1 := bef_ext s c hc
    have v2 := aft_ext s c hc
    rw [hi] at cI
    generalize (bef c (lst s)).length = k at *
    have c2 : (k : Int) ≤ (s.size : Int) := by omega
    have c4 : ((k : Int) + 1 ≤ (s.size : Int)) := by omega
    have e1 : IntKind.i64.wrap ((k : Int) + 1) = (k : Int) + 1 := IntWalk.i64_in _ (by omega)
    have V1 := hid v1
    have V2 := hid v2
    clear hi h0 hc v1 v2 hle
    rw [← V1.out, ← V2.out]
    go_enter Tryz.func139, Tryz.ntmps139
    go_wp2_with (go_at_call 138; refine (cI _).mono ?_; rintro e w' ⟨rfl, rfl⟩)
    go_quiet (fail)
    go_wp2
    go_ret3
    exact ⟨rfl, _, rfl⟩
set_option maxHeartbeats 1000000 in
theorem cut_any (s : ByteArray) (c : UInt8) (hs : s.size ≤ 4611686018427387904) (w : World) : Calls Tryz.prog 128 #[.string s, .string ⟨#[c]⟩] w (CutOut c s w) := by
  have cI := cut49 s c hs
  unfold CutOut at cI ⊢
  obtain ⟨A, hA⟩ : ∃ A, ba (bef c (lst s)) = A := ⟨_, rfl⟩
  obtain ⟨B, hB⟩ : ∃ B, ba (aft c (lst s)) = B := ⟨_, rfl⟩
  rw [hA, hB] at cI ⊢
  clear hA hB
  go_enter Tryz.func128, Tryz.ntmps128
  go_wp2_with fail
  refine (cI _).mono ?_
  rintro e w' ⟨rfl, n, rfl⟩
  go_wp2
  go_ret3
  exact ⟨rfl, n, rfl⟩
theorem atoi_dec (a : UInt8) (r : Str) (h : 49 ≤ a.toNat) : Lib.atoi (a :: r) = (Lib.decFrom 0 (a :: r)).map fun (n : Nat) => (n : Int) := by
  have e1 : (a == 45) = false := by
    rw [beq_eq_false_iff_ne]
    rintro rfl
    simp at h
  have e2 : (a == 43) = false := by
    rw [beq_eq_false_iff_ne]
    rintro rfl
    simp at h
  unfold Lib.atoi
  dsimp only
  rw [e1, e2, if_neg (by simp), if_neg (by simp)]
  unfold Lib.decNat
  rw [if_neg (by simp)]
theorem atoi_small (s : Str) (a : UInt8) (r : Str) (hs : s = a :: r) (hl : s.length ≤ 2) (h : 49 ≤ a.toNat) : Lib.atoi s = if smallN s = 0 then none else some ((smallN s : Nat) : Int) := by
  subst hs
  rw [atoi_dec a r h]
  match r, hl with
  | [], _ =>
    have e : smallN [a] = if 49 ≤ a.toNat ∧ a.toNat ≤ 57 then a.toNat - 48 else 0 := rfl
    rw [e]
    by_cases h1 : a.toNat ≤ 57
    · rw [if_pos (show 49 ≤ a.toNat ∧ a.toNat ≤ 57 from ⟨h, h1⟩), if_neg (by omega)]
      simp [Lib.decFrom, Lib.digitVal, h1, show 48 ≤ a.toNat by omega]
    · rw [if_neg (show ¬ (49 ≤ a.toNat ∧ a.toNat ≤ 57) by omega), if_pos rfl]
      simp [Lib.decFrom, Lib.digitVal, h1]
  | [b], _ =>
    have e : smallN [a, b] = if (49 ≤ a.toNat ∧ a.toNat ≤ 57) ∧ 48 ≤ b.toNat ∧ b.toNat ≤ 57 then 10 * (a.toNat - 48) + (b.toNat - 48) else 0 := rfl
    rw [e]
    by_cases h1 : a.toNat ≤ 57
    · by_cases h2 : 48 ≤ b.toNat ∧ b.toNat ≤ 57
      · rw [if_pos (show (49 ≤ a.toNat ∧ a.toNat ≤ 57) ∧ 48 ≤ b.toNat ∧ b.toNat ≤ 57 from ⟨⟨h, h1⟩, h2⟩), if_neg (by omega)]
        simp [Lib.decFrom, Lib.digitVal, h1, show 48 ≤ a.toNat by omega, h2]
        omega
      · rw [if_neg (show ¬ ((49 ≤ a.toNat ∧ a.toNat ≤ 57) ∧ 48 ≤ b.toNat ∧ b.toNat ≤ 57) from fun k => h2 k.2), if_pos rfl]
        simp [Lib.decFrom, Lib.digitVal, h1, show 48 ≤ a.toNat by omega]
        rw [if_neg h2]
    · rw [if_neg (show ¬ ((49 ≤ a.toNat ∧ a.toNat ≤ 57) ∧ 48 ≤ b.toNat ∧ b.toNat ≤ 57) by omega), if_pos rfl]
      simp [Lib.decFrom, Lib.digitVal, h1]
  | b :: c :: t, hl => simp at hl
theorem lst_cons {s : ByteArray} (h : 0 < s.size) : ∃ r, lst s = s[0]'h :: r := by
  have hl : 0 < (lst s).length := by rw [← Lib.size_eq]; exact h
  cases hs : lst s with
  | nil => rw [hs] at hl; simp at hl
  | cons a r =>
    refine ⟨r, ?_⟩
    congr 1
    have h2 : (lst s)[0]? = some (s[0]'h) := by
      have h3 : 0 < s.data.size := h
      show s.data.toList[0]? = _
      rw [Array.getElem?_toList, Array.getElem?_eq_getElem h3]
      rfl
    rw [hs] at h2
    simpa using h2
theorem small_long {s : Str} (h : 2 < s.length) : smallN s = 0 := by
  match s, h with
  | [], h => simp at h
  | [a], h => simp at h
  | [a, b], h => simp at h
  | a :: b :: c :: t, _ => rfl
theorem small_low {a : UInt8} {r : Str} (h : a.toNat < 49) : smallN (a :: r) = 0 := by
  match r with
  | [] => exact if_neg (by omega)
  | [b] => exact if_neg (by omega)
  | b :: c :: t => rfl
def NumOut (s : ByteArray) (w : World) (e : Ending) (w' : World) : Prop :=
  e = .returned (.tuple #[.int .i64 ((smallN (lst s) : Nat) : Int), .bool (decide (smallN (lst s) ≠ 0))]) ∧ Below w.heap.size w w'
set_option maxHeartbeats 2000000 in
theorem padded2_any (s : ByteArray) (hz9 : ∀ a r, lst s = a :: r → a ≠ 48) (hz : s.size ≤ 4611686018427387904) (w : World) (hE : Env w) : Calls Tryz.prog 141 #[.string s, .int .i64 2] w (NumOut s w) := by
  unfold NumOut
  obtain ⟨N, hN⟩ : ∃ N, smallN (lst s) = N := ⟨_, rfl⟩
  rw [hN]
  by_cases h0 : 0 < s.size
  · obtain ⟨x1, x2, x3, x4⟩ := str_no h0
    obtain ⟨r, hr⟩ := lst_cons h0
    by_cases h2 : s.size ≤ 2
    · have h2' : (s.size : Int) ≤ 2 := by omega
      have h2'' : ¬ (2 : Int) < s.size := by omega
      obtain ⟨a, ha⟩ : ∃ a, s[0]'h0 = a := ⟨_, rfl⟩
      rw [ha] at hr
      have h48 : a.toNat ≠ 48 := fun e => hz9 a r hr (UInt8.toNat_inj.1 (by show a.toNat = 48; exact e))
      by_cases h3 : a.toNat < 49
      · have h3' : (a.toNat : Int) < 48 := by omega
        have : N = 0 := by rw [← hN, hr, small_low h3]
        subst this
        clear hN hr hE hz9 h48
        go_enter Tryz.func141, Tryz.ntmps141
        go_wp2
        go_ret2
        exact ⟨rfl, Below.refl _ _⟩
      · have h3' : ¬ (a.toNat : Int) < 48 := by omega
        have hat := atoi_small (lst s) a r hr (by rw [← Lib.size_eq]; exact h2) (by omega)
        rw [hN] at hat
        obtain ⟨ev, hev, hev2⟩ := hE.ev
        by_cases hn0 : N = 0
        · subst hn0
          rw [if_pos rfl] at hat
          have cA := hid (Tryz.strconv_Atoi_err s (by omega) hat ev w hev hev2)
          clear hN hr hE hz9 h48 hat hev hev2
          go_enter Tryz.func141, Tryz.ntmps141
          go_wp2_with fail
          refine cA.out.mono ?_
          rintro e w' ⟨M, rfl, _, _, hb⟩
          have HB := hid hb
          clear hb
          go_wp2
          go_ret2
          exact ⟨rfl, HB.out⟩
        · rw [if_neg hn0] at hat
          have cA := hid (Tryz.strconv_Atoi s N (by omega) hat w)
          have hd : decide (N ≠ 0) = true := decide_eq_true hn0
          rw [hd]
          clear hN hr hE hz9 h48 hat hev hev2 hd hn0
          go_enter Tryz.func141, Tryz.ntmps141
          go_wp2_with fail
          refine cA.out.mono ?_
          rintro e w' ⟨rfl, t, hw⟩
          have HB : Hid (Below w.heap.size w w') := hid (by rw [hw]; exact Lib.bytesWorld_below _ _ _)
          clear hw
          go_wp2
          go_ret2
          exact ⟨rfl, HB.out⟩
    · have h2' : ¬ (s.size : Int) ≤ 2 := by omega
      have h2'' : (2 : Int) < s.size := by omega
      have : N = 0 := by rw [← hN, small_long (by rw [← Lib.size_eq]; omega)]
      subst this
      clear hN hr hE hz9
      go_enter Tryz.func141, Tryz.ntmps141
      go_wp2
      go_ret2
      exact ⟨rfl, Below.refl _ _⟩
  · obtain ⟨x1, x2, x3, x4⟩ := str_yes h0
    have : N = 0 := by rw [← hN, lst_nil h0]; rfl
    subst this
    clear hN hE hz9
    go_enter Tryz.func141, Tryz.ntmps141
    go_wp2
    go_ret2
    exact ⟨rfl, Below.refl _ _⟩
theorem hasPrefix_one (a : UInt8) (r : Str) : Lib.hasPrefix (a :: r) [48] = (a == 48) := by
  show ((48 : UInt8) == a && ([] : Str).isPrefixOf r) = (a == 48)
  rw [Bool.eq_iff_iff]
  simp
  exact eq_comm
set_option maxHeartbeats 2000000 in
theorem read_any (s : ByteArray) (hz : s.size ≤ 4611686018427387904) (w : World) (hE : Env w) : Calls Tryz.prog 130 #[.string s, .int .i64 2] w (NumOut s w) := by
  have cH := fun w => Tryz.strings_HasPrefix s ⟨#[48]⟩ w
  rw [show s.data.toList = lst s from rfl, show (⟨#[48]⟩ : ByteArray).data.toList = [48] from rfl] at cH
  by_cases h9 : ∃ r, lst s = 48 :: r
  · obtain ⟨r, hr⟩ := h9
    have hN : smallN (lst s) = 0 := by rw [hr]; exact small_low (by decide)
    unfold NumOut
    rw [hN]
    rw [hr, hasPrefix_one] at cH
    clear hr hN hE
    go_enter Tryz.func130, Tryz.ntmps130
    go_wp2_with fail
    refine (cH _).mono ?_
    rintro e w' ⟨rfl, rfl⟩
    go_wp2
    go_ret2
    exact ⟨rfl, Below.refl _ _⟩
  · have hp : Lib.hasPrefix (lst s) [48] = false := by
      cases hl : lst s with
      | nil => rfl
      | cons a r =>
        rw [hasPrefix_one, beq_eq_false_iff_ne]
        rintro rfl
        exact h9 ⟨r, hl⟩
    rw [hp] at cH
    have cP := padded2_any s (fun a r hr e => h9 ⟨r, by rw [hr, e]⟩) hz w hE
    unfold NumOut at cP ⊢
    obtain ⟨N, hN⟩ : ∃ N, smallN (lst s) = N := ⟨_, rfl⟩
    rw [hN] at cP ⊢
    obtain ⟨D, hD⟩ : ∃ D, decide (N ≠ 0) = D := ⟨_, rfl⟩
    rw [hD] at cP ⊢
    have CP := hid cP
    clear hp hN h9 hE cP hD
    go_enter Tryz.func130, Tryz.ntmps130
    go_wp2_with fail
    refine (cH _).mono ?_
    rintro e w' ⟨rfl, rfl⟩
    go_wp2_with fail
    refine CP.out.mono ?_
    rintro e w' ⟨rfl, hb⟩
    have HB := hid hb
    clear hb
    go_wp2
    go_ret2
    exact ⟨rfl, HB.out⟩
def ItemOut (r : Nat × Int) (w : World) (e : Ending) (w' : World) : Prop := e = .returned (.tuple #[.int .i64 ((r.1 : Nat) : Int), .int .i64 r.2]) ∧ Below w.heap.size w w'
theorem ba_size (l : Str) : (ba l).size = l.length := rfl
theorem aft_le (c : UInt8) : ∀ s, (aft c s).length ≤ s.length
  | [] => Nat.le_refl _
  | x :: r => by
    unfold aft
    have := aft_le c r
    split <;> simp <;> omega
theorem bef_small {s : ByteArray} (c : UInt8) (hz : s.size ≤ 4611686018427387904) : (ba (bef c (lst s))).size ≤ 4611686018427387904 := by
  rw [ba_size]
  have := bef_le c (lst s)
  rw [← Lib.size_eq] at this
  omega
theorem aft_small {s : ByteArray} (c : UInt8) (hz : s.size ≤ 4611686018427387904) : (ba (aft c (lst s))).size ≤ 4611686018427387904 := by
  rw [ba_size]
  have := aft_le c (lst s)
  rw [← Lib.size_eq] at this
  omega
def spanM (x : Str) : Nat × Nat × Bool := if fromN x = 0 ∨ toN x = 0 then (0, 0, false) else (fromN x, toN x, true)
def SpanOut (r : Nat × Nat × Bool) (w : World) (e : Ending) (w' : World) : Prop :=
  e = .returned (.tuple #[.int .i64 ((r.1 : Nat) : Int), .int .i64 ((r.2.1 : Nat) : Int), .bool r.2.2]) ∧ Below w.heap.size w w'
set_option maxHeartbeats 4000000 in
set_option maxRecDepth 100000 in
theorem readSpan_any (s : ByteArray) (hz : s.size ≤ 4611686018427387904) (w : World) (hE : Env w) :
    Calls Tryz.prog 110 #[.string s, .int .i64 2] w (SpanOut (spanM (lst s)) w) := by
  obtain ⟨R, hR⟩ : ∃ R, spanM (lst s) = R := ⟨_, rfl⟩
  rw [hR]
  have hsz := hE.size
  have HE := hid hE
  have cC := hid (fun w => cut_any s 45 hz w)
  have hAs := bef_small 45 hz
  have hBs := aft_small 45 hz
  obtain ⟨A, hA⟩ : ∃ A, ba (bef 45 (lst s)) = A := ⟨_, rfl⟩
  obtain ⟨B, hB⟩ : ∃ B, ba (aft 45 (lst s)) = B := ⟨_, rfl⟩
  obtain ⟨d, hd⟩ : ∃ d, has 45 (lst s) = d := ⟨_, rfl⟩
  have lA : bef 45 (lst s) = lst A := by rw [← hA]; rfl
  have lB : aft 45 (lst s) = lst B := by rw [← hB]; rfl
  rw [hA] at hAs
  rw [hB] at hBs
  have cC' := cC.out
  unfold CutOut at cC'
  rw [hA, hB, hd] at cC'
  have CC := hid cC'
  have cX := hid (fun w h => read_any A hAs w h)
  have cY := hid (fun w h => read_any B hBs w h)
  obtain ⟨x, hx⟩ : ∃ x, smallN (lst A) = x := ⟨_, rfl⟩
  obtain ⟨y, hy⟩ : ∃ y, smallN (lst B) = y := ⟨_, rfl⟩
  have hr2 : (if x = 0 ∨ (if d = true then y else x) = 0 then (0, 0, false) else (x, (if d = true then y else x), true)) = R := by
    rw [← hR]
    unfold spanM fromN toN
    rw [lA, lB, hd, hx, hy]
  have cX' := cX.out
  have cY' := cY.out
  unfold NumOut at cX' cY'
  rw [hx] at cX'
  rw [hy] at cY'
  have CX := hid cX'
  have CY := hid cY'
  have key : ∀ (z : Nat) (CZ : Hid (∀ w, Env w → Calls Tryz.prog 130 #[.string (if d = true then B else A), .int .i64 2] w fun e w' => e = .returned (.tuple #[.int .i64 (z : Int), .bool (decide (z ≠ 0))]) ∧ Below w.heap.size w w'))
      (HZ : Hid ((if x = 0 ∨ z = 0 then (0, 0, false) else (x, z, true)) = R)),
      Calls Tryz.prog 110 #[.string s, .int .i64 2] w (SpanOut R w) := by
    clear CY hr2 hR hA hB hd lA lB hAs hBs cC cC' cX cY hx hy cX' cY'
    intro z CZ HZ
    obtain ⟨dx, hdx⟩ : ∃ dx, decide (x ≠ 0) = dx := ⟨_, rfl⟩
    obtain ⟨dz, hdz⟩ : ∃ dz, decide (z ≠ 0) = dz := ⟨_, rfl⟩
    have CX' := CX.out
    have CZ' := CZ.out
    rw [hdx] at CX'
    rw [hdz] at CZ'
    have C1 := hid CX'
    have C2 := hid CZ'
    have four : (decide (x ≠ 0) = true ∧ decide (z ≠ 0) = true ∧ R = (x, z, true)) ∨ (decide (x ≠ 0) = false ∧ R = (0, 0, false)) ∨ (decide (x ≠ 0) = true ∧ decide (z ≠ 0) = false ∧ R = (0, 0, false)) := by
      rcases Nat.eq_zero_or_pos x with h | h
      · exact .inr (.inl ⟨decide_eq_false (by omega), by rw [← HZ.out, if_pos (.inl h)]⟩)
      · rcases Nat.eq_zero_or_pos z with h2 | h2
        · exact .inr (.inr ⟨decide_eq_true (by omega), decide_eq_false (by omega), by rw [← HZ.out, if_pos (.inr h2)]⟩)
        · exact .inl ⟨decide_eq_true (by omega), decide_eq_true (by omega), by rw [← HZ.out, if_neg (by omega)]⟩
    rw [hdx, hdz] at four
    clear CX CZ CX' CZ' HZ hdx hdz
    rcases four with ⟨rfl, rfl, rfl⟩ | ⟨rfl, rfl⟩ | ⟨rfl, rfl, rfl⟩
    all_goals
      cases d
      all_goals
        go_enter Tryz.func110, Tryz.ntmps110
        go_wp2_with fail
        refine (CC.out _).mono ?_
        rintro e w2 ⟨rfl, q, hw2⟩
        have HB2 : Hid (Below w.heap.size w w2) := hid (by rw [hw2]; exact below_drewN (Below.refl _ _) q)
        clear hw2
        go_wp2_with fail
        refine (C1.out _ (HE.out.below HB2.out hsz)).mono ?_
        rintro e w3 ⟨rfl, hb3⟩
        have HB3 := hid (HB2.out.trans (hb3.mono HB2.out.size))
        clear hb3
        go_wp2_with fail
        refine (C2.out _ (HE.out.below HB3.out hsz)).mono ?_
        rintro e w4 ⟨rfl, hb4⟩
        have HB4 := hid (HB3.out.trans (hb4.mono HB3.out.size))
        clear hb4
        go_wp2
        go_ret3
        exact ⟨rfl, HB4.out⟩
  cases d with
  | true =>
    refine key y (hid fun w h => CY.out w h) (hid ?_)
    rw [← hr2]
    simp
  | false =>
    refine key x (hid fun w h => CX.out w h) (hid ?_)
    rw [← hr2]
    simp
set_option maxHeartbeats 4000000 in
set_option maxRecDepth 100000 in
theorem readItem_any (s : ByteArray) (hz : s.size ≤ 4611686018427387904) (n : Nat) (h1 : 1 ≤ n) (h2 : n ≤ 20) (w : World) (hE : Env w) :
    Calls Tryz.prog 131 #[.string s, .int .i64 (n : Int)] w (ItemOut (itemM (lst s) n) w) := by
  obtain ⟨R, hR⟩ : ∃ R, itemM (lst s) n = R := ⟨_, rfl⟩
  rw [hR]
  have c37 := hid (setOf_any s n h1 h2 w hE.names)
  have hsz := hE.size
  have HE := hid hE
  cases hk : kindOf (lst s) with
  | some k =>
    have hr : R = (nmM k n, 0) := by
      rw [← hR]
      unfold itemM
      rw [hk]
    subst hr
    have hs : setOfM (lst s) n = (nmM k n, true) := by
      unfold setOfM
      rw [hk]
    have c37' := c37.out
    rw [hs] at c37'
    have C := hid c37'
    clear c37 c37' hs hk hR hE
    go_enter Tryz.func131, Tryz.ntmps131
    go_wp2_with fail
    refine C.out.mono ?_
    rintro e w' ⟨rfl, hb⟩
    have HB := hid hb
    clear hb
    go_wp2
    go_ret2
    exact ⟨rfl, HB.out⟩
  | none =>
    have hr : numM (lst s) n = R := by
      rw [← hR]
      unfold itemM
      rw [hk]
    have hs : setOfM (lst s) n = (0, false) := by
      unfold setOfM
      rw [hk]
    have c37' := c37.out
    rw [hs] at c37'
    have C := hid c37'
    have cP := hid (fun w h => readSpan_any s hz w h)
    have hxl : fromN (lst s) < 100 := smallN_lt _
    have hyl : toN (lst s) < 100 := by unfold toN; split <;> exact smallN_lt _
    unfold numM at hr
    have cP' := cP.out
    unfold SpanOut spanM at cP'
    obtain ⟨x, hx⟩ : ∃ x, fromN (lst s) = x := ⟨_, rfl⟩
    obtain ⟨y, hy⟩ : ∃ y, toN (lst s) = y := ⟨_, rfl⟩
    rw [hx, hy] at cP' hr
    rw [hx] at hxl
    rw [hy] at hyl
    clear c37 c37' hs hk hR hE cP hx hy
    by_cases h0 : x = 0 ∨ y = 0
    · rw [if_pos h0] at cP' hr
      subst hr
      have CP := hid cP'
      clear cP'
      go_enter Tryz.func131, Tryz.ntmps131
      go_wp2_with fail
      refine C.out.mono ?_
      rintro e w1 ⟨rfl, hb⟩
      have HB1 := hid hb
      clear hb
      go_wp2_with fail
      refine (CP.out _ (HE.out.below HB1.out hsz)).mono ?_
      rintro e w2 ⟨rfl, hb2⟩
      have HB2 := hid (HB1.out.trans (hb2.mono HB1.out.size))
      clear hb2
      go_wp2
      go_ret2
      exact ⟨rfl, HB2.out⟩
    · rw [if_neg h0] at cP' hr
      have CP := hid cP'
      clear cP'
      have three : (y < x ∨ (¬ y < x ∧ n < y)) ∨ (¬ y < x ∧ ¬ n < y) := by omega
      rcases three with hbad | ⟨hg1, hg2⟩
      · rw [if_pos (by omega)] at hr
        subst hr
        have hbad' : ((y : Int) < (x : Int)) ∨ (¬ (y : Int) < (x : Int) ∧ (n : Int) < (y : Int)) := by omega
        clear hbad
        rcases hbad' with hi1 | ⟨hi1, hi2⟩
        all_goals
          go_enter Tryz.func131, Tryz.ntmps131
          go_wp2_with fail
          refine C.out.mono ?_
          rintro e w1 ⟨rfl, hb⟩
          have HB1 := hid hb
          clear hb
          go_wp2_with fail
          refine (CP.out _ (HE.out.below HB1.out hsz)).mono ?_
          rintro e w2 ⟨rfl, hb2⟩
          have HB2 := hid (HB1.out.trans (hb2.mono HB1.out.size))
          clear hb2
          go_wp2
          go_ret2
          exact ⟨rfl, HB2.out⟩
      · rw [if_neg (by omega)] at hr
        subst hr
        have hi1 : ¬ (y : Int) < (x : Int) := by omega
        have hi2 : ¬ (n : Int) < (y : Int) := by omega
        obtain ⟨a, rfl⟩ : ∃ a, x = a + 1 := ⟨x - 1, by omega⟩
        have hca : ((a + 1 : Nat) : Int) = (a : Int) + 1 := by omega
        have CP' := CP.out
        dsimp only at CP'
        rw [hca] at CP' hi1
        have CP := hid CP'
        clear CP'
        have cS := hid (fun w => span_any a y (by omega) (by omega) w)
        go_enter Tryz.func131, Tryz.ntmps131
        go_wp2_with fail
        refine C.out.mono ?_
        rintro e w1 ⟨rfl, hb⟩
        have HB1 := hid hb
        clear hb
        go_wp2_with fail
        refine (CP.out _ (HE.out.below HB1.out hsz)).mono ?_
        rintro e w2 ⟨rfl, hb2⟩
        have HB2 := hid (HB1.out.trans (hb2.mono HB1.out.size))
        clear hb2
        go_wp2_with fail
        refine (cS.out _).mono ?_
        rintro e w5 ⟨rfl, q5, hw5⟩
        have HB5 : Hid (Below w.heap.size w w5) := hid (by rw [hw5]; exact below_drewN HB2.out q5)
        clear hw5
        go_wp2
        go_ret2
        exact ⟨rfl, HB5.out⟩
theorem lst_get (s : ByteArray) (j : Nat) (h : j < s.size) : (lst s)[j]? = some (s[j]'h) := by
  have h3 : j < s.data.size := h
  show s.data.toList[j]? = _
  rw [Array.getElem?_toList, Array.getElem?_eq_getElem h3]
  rfl
theorem cut_at (c : UInt8) : ∀ (l : Str) (i : Nat), l[i]? = some c → (∀ j, j < i → l[j]? ≠ some c) → has c l = true ∧ (bef c l).length = i
  | [], i, h, _ => by simp at h
  | x :: l, 0, h, _ => by
    have : x = c := by simpa using h
    subst this
    simp [has, bef]
  | x :: l, i + 1, h, hn => by
    have h0 : x ≠ c := fun e => hn 0 (by omega) (by simp [e])
    obtain ⟨a, b⟩ := cut_at c l i (by simpa using h) (fun j hj => by have := hn (j + 1) (by omega); simpa using this)
    refine ⟨by simp [has, a], ?_⟩
    unfold bef
    rw [if_neg h0, List.length_cons, b]
theorem has_no (c : UInt8) : ∀ (l : Str), (∀ j, j < l.length → l[j]? ≠ some c) → has c l = false
  | [], _ => rfl
  | x :: l, h => by
    have h0 : x ≠ c := fun e => h 0 (by simp) (by simp [e])
    have := has_no c l (fun j hj => by have := h (j + 1) (by simp; omega); simpa using this)
    simp [has, h0, this]
theorem u8_ne {x c : UInt8} (h : x ≠ c) : ((x.toNat : Int) == (c.toNat : Int)) = false := by
  rw [beq_eq_false_iff_ne]
  intro e
  exact h (UInt8.toNat_inj.1 (by omega))
set_option maxHeartbeats 2000000 in
theorem rcut_any (s : ByteArray) (c : UInt8) (hs : s.size ≤ 4611686018427387904) (w : World) : Calls Tryz.prog 113 #[.string s, .int .u8 (c.toNat : Int)] w (CutOut c s w) := by
  unfold CutOut
  have hlen : (lst s).length = s.size := (Lib.size_eq s).symm
  obtain ⟨A, hA⟩ : ∃ A, ba (bef c (lst s)) = A := ⟨_, rfl⟩
  obtain ⟨B, hB⟩ : ∃ B, ba (aft c (lst s)) = B := ⟨_, rfl⟩
  obtain ⟨d, hd⟩ : ∃ d, has c (lst s) = d := ⟨_, rfl⟩
  rw [hA, hB, hd]
  have HA := hid hA
  have HB := hid hB
  have HD := hid hd
  clear hA hB hd
  go_enter Tryz.func113, Tryz.ntmps113
  go_wp2
  go_loopw [7] (fun iv wr => ∃ i : Nat, iv = .int .i64 (i : Int) ∧ i ≤ s.size ∧ Hid (∀ j, j < i → (lst s)[j]? ≠ some c) ∧ Hid (wr = w)) (fun iv _ => s.size - (RowKit.intOf iv).toNat)
  case atStart => exact ⟨0, rfl, by omega, hid (fun j hj => absurd hj (by omega)), by trivial⟩
  case round =>
    obtain ⟨i, rfl, hi, hn, hw⟩ := hrel
    obtain rfl : w = wr := hw.out.symm
    by_cases hlt : i < s.size
    · have hltz : (i : Int) < (s.size : Int) := by omega
      have hg := lst_get s i hlt
      obtain ⟨x, hx⟩ : ∃ x, s[i]'hlt = x := ⟨_, rfl⟩
      rw [hx] at hg
      by_cases he : x = c
      · subst he
        obtain ⟨a, b⟩ := cut_at x (lst s) i hg hn.out
        have v1 := bef_ext s x a
        have v2 := aft_ext s x a
        rw [b] at v1 v2
        obtain rfl : d = true := by rw [← HD.out, a]
        obtain rfl : s.extract 0 i = A := by rw [v1, HA.out]
        obtain rfl : s.extract (i + 1) s.size = B := by rw [v2, HB.out]
        have c2 : (i : Int) ≤ (s.size : Int) := by omega
        have c4 : ((i : Int) + 1 ≤ (s.size : Int)) := by omega
        have e1 : IntKind.i64.wrap ((i : Int) + 1) = (i : Int) + 1 := IntWalk.i64_in _ (by omega)
        clear v1 v2 a b hg hn hlen
        go_wp2
        go_quiet (fail)
        go_wp2
        go_ret3
        exact ⟨rfl, _, rfl⟩
      · have hb := u8_ne he
        have hn2 : Hid (∀ j, j < i + 1 → (lst s)[j]? ≠ some c) := hid (fun j hj => by
          rcases Nat.lt_or_ge j i with h | h
          · exact hn.out j h
          · obtain rfl : j = i := by omega
            rw [hg]
            intro e
            injection e with e
            exact he e)
        clear hg hn he
        go_wp2
        go_roundw
        case rel => exact ⟨i + 1, by go_num, by omega, hn2, by trivial⟩
        case measure => simp [RowKit.intOf]; omega
    · obtain rfl : i = s.size := by omega
      have hf := has_no c (lst s) (fun j hj => hn.out j (by rw [← hlen]; exact hj))
      obtain ⟨e1, e2⟩ := bef_miss c (lst s) hf
      obtain rfl : d = false := by rw [← HD.out, hf]
      obtain rfl : s = A := by rw [← HA.out, e1, ba_lst]
      obtain rfl : B = ⟨#[]⟩ := by rw [← HB.out, e2]; rfl
      clear hn hf e1 e2
      go_wp2
      go_ret3
      exact ⟨rfl, 0, rfl⟩
def dgB (c : UInt8) : Bool := decide (48 ≤ c.toNat ∧ c.toNat ≤ 57)
def numN (l : Str) : Nat := l.foldl (fun n c => 10 * n + (c.toNat - 48)) 0
theorem numN_snoc (l : Str) (c : UInt8) : numN (l ++ [c]) = 10 * numN l + (c.toNat - 48) := by simp [numN]
theorem small_all {l : Str} {a : UInt8} {r : Str} (hl : l = a :: r) (h2 : l.length ≤ 2) (h0 : a.toNat ≠ 48) (hd : ∀ c ∈ l, dgB c = true) : smallN l = numN l ∧ numN l < 100 := by
  subst hl
  have ha := of_decide_eq_true (hd a (by simp))
  match r, h2 with
  | [], _ =>
    have e : smallN [a] = a.toNat - 48 := if_pos ⟨by omega, ha.2⟩
    rw [e]
    simp [numN]
    omega
  | [b], _ =>
    have hb := of_decide_eq_true (hd b (by simp))
    have e : smallN [a, b] = 10 * (a.toNat - 48) + (b.toNat - 48) := if_pos ⟨⟨by omega, ha.2⟩, hb⟩
    rw [e]
    simp [numN]
    omega
  | b :: c :: t, h2 => simp at h2
theorem small_bad {l : Str} {c : UInt8} (hc : c ∈ l) (hd : dgB c = false) : smallN l = 0 := by
  have hd := of_decide_eq_false hd
  match l, hc with
  | [a], hc =>
    obtain rfl : c = a := by simpa using hc
    exact if_neg (by omega)
  | [a, b], hc =>
    rcases (show c = a ∨ c = b by simpa using hc) with rfl | rfl
    · exact if_neg (by omega)
    · exact if_neg (by omega)
  | a :: b :: d :: t, _ => rfl
set_option maxHeartbeats 4000000 in
theorem rsmall_any (s : ByteArray) (w : World) : Calls Tryz.prog 114 #[.string s] w fun e w' => e = .returned (.int .i64 ((smallN (lst s) : Nat) : Int)) ∧ w' = w := by
  obtain ⟨N, hN⟩ : ∃ N, smallN (lst s) = N := ⟨_, rfl⟩
  have hlen : (lst s).length = s.size := (Lib.size_eq s).symm
  rw [hN]
  by_cases h0 : 0 < s.size
  · have h0z : ¬ (s.size : Int) < 1 := by omega
    obtain ⟨r, hr⟩ := lst_cons h0
    by_cases h2 : s.size ≤ 2
    · have h2z : ¬ (2 : Int) < (s.size : Int) := by omega
      obtain ⟨a, ha⟩ : ∃ a, s[0]'h0 = a := ⟨_, rfl⟩
      rw [ha] at hr
      by_cases h3 : a.toNat = 48
      · have h3z : ((a.toNat : Int) == 48) = true := by simp; omega
        obtain rfl : N = 0 := by rw [← hN, hr, small_low (by omega)]
        clear hN hr h3
        go_enter Tryz.func114, Tryz.ntmps114
        go_wp2
        go_ret
        exact ⟨rfl, rfl⟩
      · have h3z : ((a.toNat : Int) == 48) = false := by simp; omega
        have HALL := hid (fun hd => small_all hr (by rw [hlen]; exact h2) h3 hd)
        have HBAD := hid (fun c (hc : c ∈ lst s) hd => small_bad hc hd)
        have HN := hid hN
        clear hN hr h3
        go_enter Tryz.func114, Tryz.ntmps114
        go_wp2
        go_loopw [3, 4] (fun nv iv wr => ∃ i n : Nat, iv = .int .i64 (i : Int) ∧ nv = .int .i64 (n : Int) ∧ i ≤ s.size ∧ Hid (∀ c ∈ (lst s).take i, dgB c = true) ∧ Hid (numN ((lst s).take i) = n) ∧ n < 100 ∧ (i ≤ 1 → n < 10) ∧ (i = 0 → n = 0) ∧ Hid (wr = w)) (fun _ iv _ => s.size - (RowKit.intOf iv).toNat)
        case atStart => exact ⟨0, 0, rfl, rfl, by omega, hid (fun c hc => by simp at hc), hid rfl, by omega, fun _ => by omega, fun _ => rfl, by trivial⟩
        case round =>
          obtain ⟨i, n, rfl, rfl, hi, hd, hv, hn1, hn2, hn3, hw⟩ := hrel
          obtain rfl : w = wr := hw.out.symm
          by_cases hlt : i < s.size
          · have hltz : (i : Int) < (s.size : Int) := by omega
            have hg := lst_get s i hlt
            obtain ⟨x, hx⟩ : ∃ x, s[i]'hlt = x := ⟨_, rfl⟩
            rw [hx] at hg
            have hm : x ∈ lst s := List.mem_of_getElem? hg
            by_cases h4 : x.toNat < 48
            · have h4z : (x.toNat : Int) < 48 := by omega
              obtain rfl : N = 0 := by rw [← HN.out, HBAD.out x hm (decide_eq_false (by omega))]
              clear hg hm
              go_wp2
              go_ret
              exact ⟨rfl, rfl⟩
            · have h4z : ¬ (x.toNat : Int) < 48 := by omega
              by_cases h5 : 57 < x.toNat
              · have h5z : (57 : Int) < (x.toNat : Int) := by omega
                obtain rfl : N = 0 := by rw [← HN.out, HBAD.out x hm (decide_eq_false (by omega))]
                clear hg hm
                go_wp2
                go_ret
                exact ⟨rfl, rfl⟩
              · have h5z : ¬ (57 : Int) < (x.toNat : Int) := by omega
                have htk : (lst s).take (i + 1) = (lst s).take i ++ [x] := by rw [List.take_add_one, hg]; rfl
                have h1 := numN_snoc ((lst s).take i) x
                rw [← htk, hv.out] at h1
                have hd2 : Hid (∀ c ∈ (lst s).take (i + 1), dgB c = true) := hid (fun c hc => by
                  rw [htk] at hc
                  rcases List.mem_append.1 hc with hc | hc
                  · exact hd.out c hc
                  · obtain rfl : c = x := by simpa using hc
                    exact decide_eq_true ⟨by omega, by omega⟩)
                have q1 : IntKind.u8.wrap ((x.toNat : Int) - 48) = (x.toNat : Int) - 48 := by simp [IntKind.wrap, IntKind.bits, IntKind.signed]; omega
                have q2 : IntKind.i64.wrap ((x.toNat : Int) - 48) = (x.toNat : Int) - 48 := IntWalk.i64_in _ (by omega)
                have q3 : IntKind.i64.wrap (10 * (n : Int)) = 10 * (n : Int) := IntWalk.i64_in _ (by omega)
                have q4 : IntKind.i64.wrap (10 * (n : Int) + ((x.toNat : Int) - 48)) = 10 * (n : Int) + ((x.toNat : Int) - 48) := IntWalk.i64_in _ (by omega)
                have H1 := hid h1
                have hi2 : i ≤ 1 := by omega
                have hn10 := hn2 hi2
                clear h1 hg hm htk hn2
                go_wp2
                go_roundw
                case rel => exact ⟨i + 1, 10 * n + (x.toNat - 48), by go_num, by congr 1; omega, by omega, hd2, H1, by omega, fun h => by have := hn3 (by omega); omega, fun h => by omega, by trivial⟩
                case measure => simp [RowKit.intOf]; omega
          · obtain rfl : i = s.size := by omega
            have hte : (lst s).take s.size = lst s := List.take_of_length_le (by rw [hlen]; exact Nat.le_refl _)
            have hh := hd.out
            have hvv := hv.out
            rw [hte] at hh hvv
            obtain rfl : N = n := by rw [← HN.out, (HALL.out hh).1, hvv]
            clear hte hh hvv
            go_wp2
            go_ret
            exact ⟨rfl, rfl⟩
    · have h2z : (2 : Int) < (s.size : Int) := by omega
      obtain rfl : N = 0 := by rw [← hN, small_long (by rw [hlen]; omega)]
      clear hN hr
      go_enter Tryz.func114, Tryz.ntmps114
      go_wp2
      go_ret
      exact ⟨rfl, rfl⟩
  · have h0z : (s.size : Int) < 1 := by omega
    obtain rfl : N = 0 := by rw [← hN, lst_nil h0]; rfl
    clear hN
    go_enter Tryz.func114, Tryz.ntmps114
    go_wp2
    go_ret
    exact ⟨rfl, rfl⟩
theorem span_step (a v : Nat) (h : a ≤ v) (hv : v ≤ 20) : bits .or .i64 ((spanN (a + 1) v : Nat) : Int) (2 ^ v) = ((spanN (a + 1) (v + 1) : Nat) : Int) := by
  rw [or_pow (spanN (a + 1) v) v (spanN_lt _ _) hv]
  congr 1
  have h1 := pow_le h
  unfold spanN
  rw [Nat.add_sub_cancel, Nat.pow_succ]
  omega
theorem span_self (a : Nat) : spanN (a + 1) a = 0 := by unfold spanN; simp
set_option maxHeartbeats 8000000 in
set_option maxRecDepth 100000 in
theorem ritem_any (s : ByteArray) (hz : s.size ≤ 4611686018427387904) (n : Nat) (h1 : 1 ≤ n) (h2 : n ≤ 20) (w : World) (hE : Words w) :
    Calls Tryz.prog 132 #[.string s, .int .i64 (n : Int)] w (ItemOut (itemM (lst s) n) w) := by
  obtain ⟨R, hR⟩ : ∃ R, itemM (lst s) n = R := ⟨_, rfl⟩
  rw [hR]
  have HR := hid hR
  have HE := hid hE
  have cC := hid (fun w => rcut_any s 45 hz w)
  have cS := hid rsmall_any
  have cN := hid (fun k hk w => rnamed_any k n hk h1 h2 w)
  clear hR hE
  go_enter Tryz.func132, Tryz.ntmps132
  go_wp2
  go_loopw [6] (fun iv wr => ∃ k : Nat, iv = .int .i64 (k : Int) ∧ k ≤ 5 ∧ Hid (∀ i, i < k → wordS i ≠ lst s) ∧ Hid (wr = w)) (fun iv _ => 5 - (RowKit.intOf iv).toNat)
  case atStart => exact ⟨0, rfl, by omega, hid (fun i hi => absurd hi (by omega)), by trivial⟩
  case round =>
    obtain ⟨k, rfl, hk, hne, hw⟩ := hrel
    obtain rfl : w = wr := hw.out.symm
    by_cases hlt : k < 5
    · have hltz : (k : Int) < 5 := by omega
      have hc := HE.out k hlt
      obtain ⟨T, hT⟩ : ∃ T : ByteArray, (⟨(wordS k).toArray⟩ : ByteArray) = T := ⟨_, rfl⟩
      have hTl : lst T = wordS k := by rw [← hT]
      rw [hT] at hc
      clear hT
      by_cases he : wordS k = lst s
      · have heq : (s.toList == T.toList) = true := by rw [tl_eq, tl_eq, hTl, he]; simp
        obtain rfl : R = (nmM k n, 0) := by
          rw [← HR.out]
          unfold itemM
          rw [kindOf_some hlt he]
        clear he hTl HR
        go_wp2_with fail
        refine (cN.out k hlt _).mono ?_
        rintro e w' ⟨rfl, rfl⟩
        go_wp2
        go_ret2
        exact ⟨rfl, Below.refl _ _⟩
      · have heq : (s.toList == T.toList) = false := by rw [tl_eq, tl_eq, hTl]; simpa using fun e => he e.symm
        have hnx : Hid (∀ i, i < k + 1 → wordS i ≠ lst s) := hid (fun i hi => by
          rcases Nat.lt_or_ge i k with h | h
          · exact hne.out i h
          · obtain rfl : i = k := by omega
            exact he)
        clear he hTl
        go_wp2
        go_roundw
        case rel => exact ⟨k + 1, by go_num, by omega, hnx, by trivial⟩
        case measure => simp [RowKit.intOf]; omega
    · obtain rfl : k = 5 := by omega
      have hr : numM (lst s) n = R := by
        rw [← HR.out]
        unfold itemM
        rw [kindOf_none hne.out]
      obtain ⟨A, hA⟩ : ∃ A, ba (bef 45 (lst s)) = A := ⟨_, rfl⟩
      obtain ⟨B, hB⟩ : ∃ B, ba (aft 45 (lst s)) = B := ⟨_, rfl⟩
      obtain ⟨d, hd⟩ : ∃ d, has 45 (lst s) = d := ⟨_, rfl⟩
      have lA : bef 45 (lst s) = lst A := by rw [← hA]; rfl
      have lB : aft 45 (lst s) = lst B := by rw [← hB]; rfl
      have cC' := cC.out
      unfold CutOut at cC'
      rw [hA, hB, hd] at cC'
      have CC := hid cC'
      have cX := hid (fun w => cS.out A w)
      have cY := hid (fun w => cS.out B w)
      obtain ⟨x, hx⟩ : ∃ x, smallN (lst A) = x := ⟨_, rfl⟩
      obtain ⟨y, hy⟩ : ∃ y, smallN (lst B) = y := ⟨_, rfl⟩
      have hr2 : (if x = 0 ∨ (if d = true then y else x) = 0 then ((0 : Nat), (4 : Int)) else if (if d = true then y else x) < x ∨ n < (if d = true then y else x) then (0, 3) else (spanN x (if d = true then y else x), 0)) = R := by
        rw [← hr]
        unfold numM fromN toN
        rw [lA, lB, hd, hx, hy]
      have cX' := cX.out
      have cY' := cY.out
      rw [hx] at cX'
      rw [hy] at cY'
      have CX := hid cX'
      have CY := hid cY'
      have HR2 := hid hr2
      have hyl : y < 100 := by rw [← hy]; exact smallN_lt _
      have hxl : x < 100 := by rw [← hx]; exact smallN_lt _
      obtain ⟨z, hzz⟩ : ∃ z, (if d = true then y else x) = z := ⟨_, rfl⟩
      have HR3 := HR2.out
      rw [hzz] at HR3
      have HRZ := hid HR3
      have hzl : z < 100 := by rw [← hzz]; split <;> omega
      have hdz : (d = true ∧ Hid (z = y)) ∨ (d = false ∧ Hid (z = x)) := by
        cases d with
        | true => exact .inl ⟨rfl, hid hzz.symm⟩
        | false => exact .inr ⟨rfl, hid hzz.symm⟩
      clear hr hA hB hd lA lB cC cC' cX cY hx hy hr2 cX' cY' HR HR2 HR3 hzz hne cS cN
      rcases (show (x = 0 ∨ z = 0) ∨ (1 ≤ x ∧ 1 ≤ z) by omega) with hbad | ⟨hx1, hz1⟩
      · obtain rfl : R = (0, 4) := by rw [← HRZ.out, if_pos hbad]
        clear HRZ
        rcases (show x = 0 ∨ (1 ≤ x ∧ z = 0) by omega) with hx0 | ⟨hx0, hz0⟩
        · subst hx0
          clear hbad
          rcases hdz with ⟨rfl, hzy⟩ | ⟨rfl, hzy⟩
          · go_wp2_with fail
            refine (CC.out _).mono ?_
            rintro e w2 ⟨rfl, q, hw2⟩
            have HB2 : Hid (Below w.heap.size w w2) := hid (by rw [hw2]; exact below_drewN (Below.refl _ _) q)
            clear hw2
            go_wp2_with fail
            refine (CX.out _).mono ?_
            rintro e w3 ⟨rfl, rfl⟩
            go_wp2_with fail
            refine (CY.out _).mono ?_
            rintro e w3 ⟨rfl, rfl⟩
            go_wp2
            go_ret2
            exact ⟨rfl, HB2.out⟩
          · go_wp2_with fail
            refine (CC.out _).mono ?_
            rintro e w2 ⟨rfl, q, hw2⟩
            have HB2 : Hid (Below w.heap.size w w2) := hid (by rw [hw2]; exact below_drewN (Below.refl _ _) q)
            clear hw2
            go_wp2_with fail
            refine (CX.out _).mono ?_
            rintro e w3 ⟨rfl, rfl⟩
            go_wp2
            go_ret2
            exact ⟨rfl, HB2.out⟩
        · have hxb : ((x : Int) == 0) = false := by simp; omega
          rcases hdz with ⟨rfl, hzy⟩ | ⟨rfl, hzy⟩
          · obtain rfl : y = 0 := by rw [← hzy.out, hz0]
            clear hbad hz0
            go_wp2_with fail
            refine (CC.out _).mono ?_
            rintro e w2 ⟨rfl, q, hw2⟩
            have HB2 : Hid (Below w.heap.size w w2) := hid (by rw [hw2]; exact below_drewN (Below.refl _ _) q)
            clear hw2
            go_wp2_with fail
            refine (CX.out _).mono ?_
            rintro e w3 ⟨rfl, rfl⟩
            go_wp2_with fail
            refine (CY.out _).mono ?_
            rintro e w3 ⟨rfl, rfl⟩
            go_wp2
            go_ret2
            exact ⟨rfl, HB2.out⟩
          · exact absurd hzy.out (by omega)
      · have HRZ2 : Hid ((if z < x ∨ n < z then ((0 : Nat), (3 : Int)) else (spanN x z, 0)) = R) := hid (by rw [← HRZ.out, if_neg (show ¬ (x = 0 ∨ z = 0) by omega)])
        clear HRZ
        have hxb : ((x : Int) == 0) = false := by simp; omega
        have hzb : ((z : Int) == 0) = false := by simp; omega
        have CZ : Hid (d = true → ∀ w, Calls Tryz.prog 114 #[.string B] w fun e w' => e = .returned (.int .i64 (z : Int)) ∧ w' = w) := hid (fun hd w => by
          rcases hdz with ⟨_, hzy⟩ | ⟨h, _⟩
          · rw [hzy.out]; exact CY.out w
          · rw [hd] at h; simp at h)
        have hdx : d = false → z = x := fun hd => by
          rcases hdz with ⟨h, _⟩ | ⟨_, hzy⟩
          · rw [hd] at h; simp at h
          · exact hzy.out
        have HDX := hid hdx
        clear hdz hdx CY
        by_cases hxn : n < x
        · have hi1 : (n : Int) < (x : Int) := by omega
          obtain rfl : R = (0, 3) := by rw [← HRZ2.out, if_pos (by omega)]
          clear HRZ2
          cases d with
          | true =>
            have CZt := hid (CZ.out rfl)
            go_wp2_with fail
            refine (CC.out _).mono ?_
            rintro e w2 ⟨rfl, q, hw2⟩
            have HB2 : Hid (Below w.heap.size w w2) := hid (by rw [hw2]; exact below_drewN (Below.refl _ _) q)
            clear hw2
            go_wp2_with fail
            refine (CX.out _).mono ?_
            rintro e w3 ⟨rfl, rfl⟩
            go_wp2_with fail
            refine (CZt.out _).mono ?_
            rintro e w3 ⟨rfl, rfl⟩
            go_wp2
            go_ret2
            exact ⟨rfl, HB2.out⟩
          | false =>
            go_wp2_with fail
            refine (CC.out _).mono ?_
            rintro e w2 ⟨rfl, q, hw2⟩
            have HB2 : Hid (Below w.heap.size w w2) := hid (by rw [hw2]; exact below_drewN (Below.refl _ _) q)
            clear hw2
            go_wp2_with fail
            refine (CX.out _).mono ?_
            rintro e w3 ⟨rfl, rfl⟩
            go_wp2
            go_ret2
            exact ⟨rfl, HB2.out⟩
        · have hi1 : ¬ (n : Int) < (x : Int) := by omega
          by_cases hzn : n < z
          · have hi2 : (n : Int) < (z : Int) := by omega
            obtain rfl : R = (0, 3) := by rw [← HRZ2.out, if_pos (by omega)]
            clear HRZ2
            cases d with
            | true =>
              have CZt := hid (CZ.out rfl)
              go_wp2_with fail
              refine (CC.out _).mono ?_
              rintro e w2 ⟨rfl, q, hw2⟩
              have HB2 : Hid (Below w.heap.size w w2) := hid (by rw [hw2]; exact below_drewN (Below.refl _ _) q)
              clear hw2
              go_wp2_with fail
              refine (CX.out _).mono ?_
              rintro e w3 ⟨rfl, rfl⟩
              go_wp2_with fail
              refine (CZt.out _).mono ?_
              rintro e w3 ⟨rfl, rfl⟩
              go_wp2
              go_ret2
              exact ⟨rfl, HB2.out⟩
            | false =>
              have := HDX.out rfl
              omega
          · have hi2 : ¬ (n : Int) < (z : Int) := by omega
            by_cases hzx : z < x
            · have hi3 : (z : Int) < (x : Int) := by omega
              obtain rfl : R = (0, 3) := by rw [← HRZ2.out, if_pos (by omega)]
              clear HRZ2
              cases d with
              | true =>
                have CZt := hid (CZ.out rfl)
                go_wp2_with fail
                refine (CC.out _).mono ?_
                rintro e w2 ⟨rfl, q, hw2⟩
                have HB2 : Hid (Below w.heap.size w w2) := hid (by rw [hw2]; exact below_drewN (Below.refl _ _) q)
                clear hw2
                go_wp2_with fail
                refine (CX.out _).mono ?_
                rintro e w3 ⟨rfl, rfl⟩
                go_wp2_with fail
                refine (CZt.out _).mono ?_
                rintro e w3 ⟨rfl, rfl⟩
                go_wp2
                go_ret2
                exact ⟨rfl, HB2.out⟩
              | false =>
                have := HDX.out rfl
                omega
            · have hi3 : ¬ (z : Int) < (x : Int) := by omega
              have hr : R = (spanN x z, 0) := by rw [← HRZ2.out, if_neg (by omega)]
              clear HRZ2
              obtain ⟨a, rfl⟩ : ∃ a, x = a + 1 := ⟨x - 1, by omega⟩
              have hca : ((a + 1 : Nat) : Int) = (a : Int) + 1 := by omega
              have CX' := CX.out
              rw [hca] at CX' hi1 hi3 hxb
              have CX2 := hid CX'
              clear CX'
              cases d with
              | true =>
                have CZt := hid (CZ.out rfl)
                go_wp2_with fail
                refine (CC.out _).mono ?_
                rintro e w2 ⟨rfl, q, hw2⟩
                have HB2 : Hid (Below w.heap.size w w2) := hid (by rw [hw2]; exact below_drewN (Below.refl _ _) q)
                clear hw2
                go_wp2_with fail
                refine (CX2.out _).mono ?_
                rintro e w3 ⟨rfl, rfl⟩
                go_wp2_with fail
                refine (CZt.out _).mono ?_
                rintro e w3 ⟨rfl, rfl⟩
                go_wp2
                have HRS := hid hr
                clear hr
                go_loopw [12, 13] (fun sv iv wr => ∃ v : Nat, iv = .int .i64 ((v : Int) + 1) ∧ a ≤ v ∧ v ≤ z ∧ sv = .int .i64 ((spanN (a + 1) v : Nat) : Int) ∧ Hid (Below w.heap.size w wr)) (fun _ iv _ => z + 1 - (RowKit.intOf iv).toNat)
                case atStart => exact ⟨a, rfl, by omega, by omega, by rw [span_self]; rfl, HB2⟩
                case round =>
                  obtain ⟨v, rfl, hv1, hv2, rfl, hB⟩ := hrel
                  by_cases hvz : v < z
                  · have hvi : (v : Int) + 1 ≤ (z : Int) := by omega
                    have e1 : IntKind.i64.wrap ((v : Int) + 1 - 1) = (v : Int) := by rw [Int.add_sub_cancel]; exact IntWalk.i64_in _ (by omega)
                    have hor := span_step a v hv1 (by omega)
                    have hpj := powI v (by omega)
                    go_wp2
                    go_roundw
                    case rel => exact ⟨v + 1, by simp, by omega, by omega, rfl, hB⟩
                    case measure => simp [RowKit.intOf]; omega
                  · have hvi : ¬ (v : Int) + 1 ≤ (z : Int) := by omega
                    obtain rfl : v = z := by omega
                    go_wp2
                    go_ret2
                    exact ⟨by rw [HRS.out]; rfl, hB.out⟩
              | false =>
                obtain rfl : z = a + 1 := HDX.out rfl
                go_wp2_with fail
                refine (CC.out _).mono ?_
                rintro e w2 ⟨rfl, q, hw2⟩
                have HB2 : Hid (Below w.heap.size w w2) := hid (by rw [hw2]; exact below_drewN (Below.refl _ _) q)
                clear hw2
                rw [hca] at hi2 hi3 hzb
                go_wp2_with fail
                refine (CX2.out _).mono ?_
                rintro e w3 ⟨rfl, rfl⟩
                go_wp2
                have HRS := hid hr
                clear hr
                go_loopw [12, 13] (fun sv iv wr => ∃ v : Nat, iv = .int .i64 ((v : Int) + 1) ∧ a ≤ v ∧ v ≤ a + 1 ∧ sv = .int .i64 ((spanN (a + 1) v : Nat) : Int) ∧ Hid (Below w.heap.size w wr)) (fun _ iv _ => a + 2 - (RowKit.intOf iv).toNat)
                case atStart => exact ⟨a, rfl, by omega, by omega, by rw [span_self]; rfl, HB2⟩
                case round =>
                  obtain ⟨v, rfl, hv1, hv2, rfl, hB⟩ := hrel
                  by_cases hvz : v < a + 1
                  · have hvi : (v : Int) + 1 ≤ (a : Int) + 1 := by omega
                    have hvi2 : (v : Int) ≤ (a : Int) := by omega
                    have e1 : IntKind.i64.wrap ((v : Int) + 1 - 1) = (v : Int) := by rw [Int.add_sub_cancel]; exact IntWalk.i64_in _ (by omega)
                    have hor := span_step a v hv1 (by omega)
                    have hpj := powI v (by omega)
                    go_wp2
                    go_roundw
                    case rel => exact ⟨v + 1, by simp, by omega, by omega, rfl, hB⟩
                    case measure => simp [RowKit.intOf]; omega
                  · have hvi : ¬ (v : Int) + 1 ≤ (a : Int) + 1 := by omega
                    have hvi2 : ¬ (v : Int) ≤ (a : Int) := by omega
                    obtain rfl : v = a + 1 := by omega
                    go_wp2
                    go_ret2
                    exact ⟨by rw [HRS.out]; rfl, hB.out⟩
theorem splitL_has : ∀ (l : Str), splitL l = if has 44 l = true then bef 44 l :: splitL (aft 44 l) else [l]
  | [] => rfl
  | c :: l => by
    have ih := splitL_has l
    by_cases hc : c = 44
    · subst hc
      simp [splitL, has, bef, aft]
    · have hb : (c == 44) = false := by simpa using hc
      simp only [splitL, if_neg hc, has, hb, Bool.false_or, bef, aft]
      rw [ih]
      cases has 44 l <;> simp
theorem aft_lt (c : UInt8) (l : Str) (h : has c l = true) : (aft c l).length < l.length := by
  have h0 := congrArg List.length (bef_hit c l h)
  simp only [List.length_append, List.length_cons] at h0
  omega
theorem parseN_of {s : Str} {n acc : Nat} {R : Nat × Int} (hR : parseN s n = R) (h : goP n (splitL s) 0 = (acc, 0)) : R = if acc = 0 then (0, 16) else (acc, 0) := by
  rw [← hR]
  unfold parseN
  rw [h]
  simp
theorem parseN_err {s : Str} {n : Nat} {e : Int} {R : Nat × Int} (hR : parseN s n = R) (h : goP n (splitL s) 0 = (0, e)) (he : e ≠ 0) : R = (0, e) := by
  rw [← hR]
  unfold parseN
  rw [h, if_pos he]
set_option maxHeartbeats 8000000 in
set_option maxRecDepth 100000 in
theorem rparse_any (s : ByteArray) (hz : s.size ≤ 4611686018427387904) (N : Int) (w : World) (hE : Words w) (hw6 : 9 < w.heap.size) :
    Calls Tryz.prog 116 #[.string s, .int .i64 N] w (ItemOut (parseM (lst s) N) w) := by
  by_cases hlo : N < 1
  · have : parseM (lst s) N = (0, 3) := if_neg (by omega)
    rw [this]
    go_enter Tryz.func116, Tryz.ntmps116
    go_wp2
    go_ret2
    exact ⟨rfl, Below.refl _ _⟩
  by_cases hhi : 20 < N
  · have : parseM (lst s) N = (0, 3) := if_neg (by omega)
    rw [this]
    go_enter Tryz.func116, Tryz.ntmps116
    go_wp2
    go_ret2
    exact ⟨rfl, Below.refl _ _⟩
  obtain ⟨n, rfl⟩ := natN (show 0 ≤ N by omega)
  have hM : parseM (lst s) (n : Int) = parseN (lst s) n := by
    unfold parseM
    rw [if_pos ⟨by omega, by omega⟩, Int.toNat_natCast]
  rw [hM]
  clear hM
  obtain ⟨R, hR⟩ : ∃ R, parseN (lst s) n = R := ⟨_, rfl⟩
  rw [hR]
  have HR := hid hR
  have HE := hid hE
  have cC := hid (fun s hz w => rcut_any s 44 hz w)
  have cI := hid (fun s hz w h => ritem_any s hz n (by omega) (by omega) w h)
  have hp := powI n (by omega)
  have hpN : 2 ^ n ≤ 1048576 := pow_le (show n ≤ 20 by omega)
  obtain ⟨G, hG⟩ : ∃ G, goP n (splitL (lst s)) 0 = G := ⟨_, rfl⟩
  have HG := hid hG
  have hE6 : Hid (∀ w', Below w.heap.size w w' → Words w') := hid (fun w' hb k hk => (hb.cell (p := ⟨3, k, none⟩) (by show 3 < w.heap.size; omega)).trans (hE k hk))
  clear hR hE hG
  go_enter Tryz.func116, Tryz.ntmps116
  go_wp2
  go_loopw [0, 6, 7] (fun rv sv mv wr => ∃ (r : ByteArray) (acc : Nat) (m : Bool), rv = .string r ∧ sv = .int .i64 (acc : Int) ∧ mv = .bool m ∧ r.size ≤ 4611686018427387904 ∧ acc < 2 ^ n ∧
    Hid ((m = true → goP n (splitL (lst r)) acc = G) ∧ (m = false → G = (acc, 0))) ∧ Hid (Below w.heap.size w wr)) (fun rv _ mv _ => match mv with | .bool true => (match rv with | .string r => r.size + 1 | _ => 0) | _ => 0)
  case atStart => exact ⟨s, 0, true, rfl, rfl, rfl, hz, Nat.two_pow_pos n, hid ⟨fun _ => HG.out, fun h => by simp at h⟩, hid (Below.refl _ _)⟩
  case round =>
    obtain ⟨r, acc, m, rfl, rfl, rfl, hrz, hacc, hgo, hB⟩ := hrel
    cases m with
    | false =>
      have hG := hgo.out.2 rfl
      have hr := parseN_of HR.out (HG.out.trans hG)
      by_cases h0 : acc = 0
      · subst h0
        obtain rfl : R = (0, 16) := by rw [hr, if_pos rfl]
        clear hr hG
        go_wp2
        go_ret2
        exact ⟨rfl, hB.out⟩
      · obtain rfl : R = (acc, 0) := by rw [hr, if_neg h0]
        have hz0 : ((acc : Int) == 0) = false := by simpa using h0
        clear hr hG
        go_wp2
        go_ret2
        exact ⟨rfl, hB.out⟩
    | true =>
      have hgr := hgo.out.1 rfl
      rw [splitL_has] at hgr
      have cC' := cC.out r hrz
      unfold CutOut at cC'
      obtain ⟨A, hA⟩ : ∃ A, ba (bef 44 (lst r)) = A := ⟨_, rfl⟩
      obtain ⟨B, hB'⟩ : ∃ B, ba (aft 44 (lst r)) = B := ⟨_, rfl⟩
      obtain ⟨d, hd⟩ : ∃ d, has 44 (lst r) = d := ⟨_, rfl⟩
      have lA : bef 44 (lst r) = lst A := by rw [← hA]; rfl
      have lB : aft 44 (lst r) = lst B := by rw [← hB']; rfl
      have hAs : A.size ≤ 4611686018427387904 := by
        rw [← hA, ba_size]
        have := bef_le 44 (lst r)
        rw [← Lib.size_eq] at this
        omega
      have hBs : B.size ≤ 4611686018427387904 := by
        rw [← hB', ba_size]
        have := aft_le 44 (lst r)
        rw [← Lib.size_eq] at this
        omega
      have hlt : d = true → B.size < r.size := fun h => by
        rw [← hB', ba_size, Lib.size_eq r]
        exact aft_lt 44 (lst r) (hd.trans h)
      have hrA : d = false → lst r = lst A := fun h => by rw [← lA, (bef_miss 44 (lst r) (hd.trans h)).1]
      rw [hA, hB', hd] at cC'
      rw [hd, lA, lB] at hgr
      have CC := hid cC'
      obtain ⟨I, hI⟩ : ∃ I, itemM (lst A) n = I := ⟨_, rfl⟩
      have hgr2 : (if I.2 ≠ 0 then (0, I.2) else goP n (if d = true then splitL (lst B) else []) (acc ||| I.1)) = G := by
        rw [← hgr, ← hI]
        cases d with
        | true => rfl
        | false =>
          rw [hrA rfl]
          simp only [Bool.false_eq_true, if_false]
          rfl
      have hIl : I.1 < 2 ^ n := by rw [← hI]; exact item_lt _ _
      have hol := Nat.or_lt_two_pow hacc hIl
      have hor := bw_or acc I.1 (by omega) (by omega)
      have cI' := fun w h => cI.out A hAs w h
      rw [hI] at cI'
      have CI := hid cI'
      have HG2 := hid hgr2
      have HL := hid hlt
      clear hgr cC' hA hB' hd lA lB hAs hrA hI hgr2 cI' hlt hgo
      obtain ⟨iv, ie⟩ := I
      dsimp only at hIl hol hor
      unfold ItemOut at CI
      dsimp only at CI
      go_wp2_with fail
      refine (CC.out _).mono ?_
      rintro e w2 ⟨rfl, q, hw2⟩
      have HB2 : Hid (Below w.heap.size w w2) := hid (by rw [hw2]; exact below_drewN hB.out q)
      clear hw2
      by_cases he : ie = 0
      · subst he
        have hG3 : Hid ((d = true → goP n (splitL (lst B)) (acc ||| iv) = G) ∧ (d = false → G = (acc ||| iv, 0))) := hid (by
          have := HG2.out
          rw [if_neg (by simp)] at this
          refine ⟨fun h => ?_, fun h => ?_⟩
          · rw [h, if_pos rfl] at this
            exact this
          · rw [h, if_neg (by simp)] at this
            exact this.symm)
        obtain ⟨O, hO⟩ : ∃ O, acc ||| iv = O := ⟨_, rfl⟩
        rw [hO] at hol hor hG3
        clear hO HG2
        go_wp2_with fail
        refine (CI.out _ (hE6.out _ HB2.out)).mono ?_
        rintro e w3 ⟨rfl, hb3⟩
        have HB3 := hid (HB2.out.trans (hb3.mono HB2.out.size))
        clear hb3
        go_wp2
        go_roundw
        case rel => exact ⟨B, O, d, rfl, rfl, rfl, hBs, hol, hG3, HB3⟩
        case measure =>
          cases d with
          | true => have := HL.out rfl; simp; omega
          | false => simp
      · have hG3 : G = (0, ie) := by rw [← HG2.out, if_pos he]
        obtain rfl := parseN_err HR.out (HG.out.trans hG3) he
        have hne : (ie != 0) = true := by simpa using he
        clear hG3 HG2 hol hor
        go_wp2_with fail
        refine (CI.out _ (hE6.out _ HB2.out)).mono ?_
        rintro e w3 ⟨rfl, hb3⟩
        have HB3 := hid (HB2.out.trans (hb3.mono HB2.out.size))
        clear hb3
        go_wp2
        go_ret2
        exact ⟨rfl, HB3.out⟩
end Go.Proofs.YtnpfmoalgphkcaaGreatDoor
