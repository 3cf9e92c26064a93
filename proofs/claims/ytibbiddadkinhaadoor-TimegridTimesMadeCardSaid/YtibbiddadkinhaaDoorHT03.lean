/-
  Cutting at a sign; numbers of at most two digits: Read of numerals. Conditions: the library's variable holds an error.
  A number or two with '-' between: ReadSpan of numerals; an item of a set: the program's readItem. Conditions: the variables hold what their text lays; the number of weeks is from 1 to 20.
  The specification's Parse. Conditions: the words lie in memory as the text says; the string fits into memory.
  The text of a set: plain mathematics. No program, no conditions.
  What is written is read: plain mathematics. No program, no conditions.
  Grids and times of the week: plain mathematics. No program, no conditions.
  The words of a time's text, and the name of a day: cutWords and dayOf of timegrid. Conditions: the table of the days' names holds what its text lays.
-/
import Derived.Test.YtibbiddadkinhaaDoorHT01
import Derived.Test.YtibbiddadkinhaaDoorHT02
import Derived.Test.YtibbiddadkinhaaDoorProg
import Derived.WalkKit
import Derived.WalkSpells
import Derived.WalkLawsBesides
import Derived.Lib.Hide
import Derived.Deep.QuietTactic
import Derived.BigQuiet
import Derived.Laws.Rows
import Derived.OwnWalk
import Derived.Lib.BufferWrite
import Derived.Lib.UnsafeStr
import Derived.Laws.IdiomStrings
import Derived.Laws.BytesArg
import Derived.Laws.BytesString
import Derived.Laws.OwnMore
import Derived.Lib.IndexLaws
import Derived.Lib.ItoaNum
import Derived.Lib.Atoi
import Derived.Laws.BitsAllLaws
import Derived.Laws.BitsLemmas
import Derived.Deep.MidRow
import Derived.Shelf.Strings.Builder1
import Derived.Shelf.Strings.Builder2
import Derived.Shelf.Strings.OnBuilder
import Derived.Shelf.Strings.BuilderF
import Derived.Shelf.Strings.BuilderK
import Derived.Shelf.Strings.Builder2Cap
import Derived.Shelf.Strconv.Atoi
import Derived.Shelf.Strconv.Itoa0
import Derived.Shelf.Strconv.Itoa1
import Derived.Shelf.LaysM
import Derived.Shelf.Strconv.Itoa2
import Derived.Shelf.Strconv.Itoa3
import Derived.Shelf.Strconv.AtoiErrFast
import Derived.Shelf.Strconv.ParseIntEmpty
import Derived.Shelf.Strconv.AtoiFail
import Derived.Shelf.Strconv.Clone
import Derived.Shelf.Strconv.SyntaxError
import Derived.Shelf.LaysC
import Derived.Shelf.Strconv.ToError
import Derived.Shelf.Strconv.AtoiErr
import Derived.Shelf.Strings.Search1
import Derived.Shelf.Strings.Search2
import Derived.Shelf.Strings.Search3
import Derived.Shelf.Strings.Cut
import Derived.Shelf.Strings.Shaped
import Derived.Shelf.Strings.Prefix
import Derived.Shelf.Unicode.DecodeSlow
import Derived.Shelf.Strings.BuilderCap
import Derived.Lib.AtoiErrMem
import Derived.Handy
set_option linter.unusedVariables false
namespace Go.Proofs.YtibbiddadkinhaaDoor
open Go Go.Proofs Go.RowKit Go.Lib

/-- What the package-level variables hold. -/
structure Env (w : World) : Prop where
  names : Names w
  ev : ∃ ev, w.cell? ⟨6, 0, none⟩ = some ev ∧ (ev = .nilIface ∨ ∃ te pe, ev = .iface te pe)
  size : 6 < w.heap.size
theorem Env.below {w w' : World} (h : Env w) {B : Nat} (hb : Below B w w') (hB : 6 < B) : Env w' := by
  obtain ⟨ev, he, hk⟩ := h.ev
  have hs := h.size
  exact ⟨fun j v hj => (hb.cell (p := ⟨1, j, none⟩) (by show 1 < B; omega)).trans (h.names j v hj),
    ⟨ev, (hb.cell (p := ⟨6, 0, none⟩) (by show 6 < B; omega)).trans he, hk⟩, Nat.le_trans hs hb.size⟩

theorem bef_ext (s : ByteArray) (c : UInt8) (hc : has c (lst s) = true) : s.extract 0 (bef c (lst s)).length = ba (bef c (lst s)) := by
  rw [← ba_lst (s.extract 0 (bef c (lst s)).length), lst_extract, List.drop_zero, bef_take]
theorem aft_ext (s : ByteArray) (c : UInt8) (hc : has c (lst s) = true) : s.extract ((bef c (lst s)).length + 1) s.size = ba (aft c (lst s)) := by
  rw [← ba_lst (s.extract _ _), lst_extract, List.take_of_length_le (by rw [← Lib.size_eq]; exact Nat.le_refl _), aft_drop c _ hc]
def CutOut (c : UInt8) (s : ByteArray) (w : World) (e : Ending) (w' : World) : Prop :=
  e = .returned (.tuple #[.string (ba (bef c (lst s))), .string (ba (aft c (lst s))), .bool (has c (lst s))]) ∧ ∃ n, w' = w.drewN n

set_option maxHeartbeats 1000000 in
theorem cut49 (s : ByteArray) (c : UInt8) (hs : s.size ≤ 4611686018427387904) (w : World) : Calls Tryd.prog 65 #[.string s, .string ⟨#[c]⟩] w (CutOut c s w) := by
  unfold CutOut
  have cI := fun w => Tryd.stringslite_Index_one s c w
  have hi := indexByte_bef c (lst s)
  have hle := bef_le c (lst s)
  rw [show (lst s).length = s.size from (Lib.size_eq s).symm] at hle
  rw [show Lib.indexByte s.data.toList c = Lib.indexByte (lst s) c from rfl] at cI
  cases hc : has c (lst s) with
  | false =>
    obtain ⟨e1, e2⟩ := bef_miss c (lst s) hc
    rw [e1, e2, ba_lst]
    rw [hc, if_neg (by decide)] at hi
    rw [hi] at cI
    clear hi e1 e2 hc hle
    go_enter Tryd.func65, Tryd.ntmps65
    go_wp2_with (go_at_call 74; refine (cI _).mono ?_; rintro e w' ⟨rfl, rfl⟩)
    go_ret3
    exact ⟨rfl, 0, rfl⟩
  | true =>
    rw [hc, if_pos rfl] at hi
    have h0 := congrArg List.length (bef_hit c (lst s) hc)
    simp only [List.length_append, List.length_cons] at h0
    rw [show (lst s).length = s.size from (Lib.size_eq s).symm] at h0
    have v1 := bef_ext s c hc
    have v2 := aft_ext s c hc
    rw [hi] at cI
    generalize (bef c (lst s)).length = k at *
    have c2 : (k : Int) ≤ (s.size : Int) := by omega
    have c4 : ((k : Int) + 1 ≤ (s.size : Int)) := by omega
    have e1 : IntKind.i64.wrap ((k : Int) + 1) = (k : Int) + 1 := IntWalk.i64_in _ (by omega)
    have V1 := hid v1
    have V2 := hid v2
    clear hi h0 hc v1 v2 hle
    rw [← V1.out, ← V2.out]
    go_enter Tryd.func65, Tryd.ntmps65
    go_wp2_with (go_at_call 74; refine (cI _).mono ?_; rintro e w' ⟨rfl, rfl⟩)
    go_quiet (fail)
    go_wp2
    go_ret3
    exact ⟨rfl, _, rfl⟩
set_option maxHeartbeats 1000000 in
theorem cut_any (s : ByteArray) (c : UInt8) (hs : s.size ≤ 4611686018427387904) (w : World) : Calls Tryd.prog 55 #[.string s, .string ⟨#[c]⟩] w (CutOut c s w) := by
  have cI := cut49 s c hs
  unfold CutOut at cI ⊢
  obtain ⟨A, hA⟩ : ∃ A, ba (bef c (lst s)) = A := ⟨_, rfl⟩
  obtain ⟨B, hB⟩ : ∃ B, ba (aft c (lst s)) = B := ⟨_, rfl⟩
  rw [hA, hB] at cI ⊢
  clear hA hB
  go_enter Tryd.func55, Tryd.ntmps55
  go_wp2_with fail
  refine (cI _).mono ?_
  rintro e w' ⟨rfl, n, rfl⟩
  go_wp2
  go_ret3
  exact ⟨rfl, n, rfl⟩

/-! ### numbers -/
theorem atoi_dec (a : UInt8) (r : Str) (h : 49 ≤ a.toNat) : Lib.atoi (a :: r) = (Lib.decFrom 0 (a :: r)).map fun (n : Nat) => (n : Int) := by
  have e1 : (a == 45) = false := by
    rw [beq_eq_false_iff_ne]
    rintro rfl
    simp at h
  have e2 : (a == 43) = false := by
    rw [beq_eq_false_iff_ne]
    rintro rfl
    simp at h
  unfold Lib.atoi
  dsimp only
  rw [e1, e2, if_neg (by simp), if_neg (by simp)]
  unfold Lib.decNat
  rw [if_neg (by simp)]
theorem atoi_small (s : Str) (a : UInt8) (r : Str) (hs : s = a :: r) (hl : s.length ≤ 2) (h : 49 ≤ a.toNat) : Lib.atoi s = if smallN s = 0 then none else some ((smallN s : Nat) : Int) := by
  subst hs
  rw [atoi_dec a r h]
  match r, hl with
  | [], _ =>
    have e : smallN [a] = if 49 ≤ a.toNat ∧ a.toNat ≤ 57 then a.toNat - 48 else 0 := rfl
    rw [e]
    by_cases h1 : a.toNat ≤ 57
    · rw [if_pos (show 49 ≤ a.toNat ∧ a.toNat ≤ 57 from ⟨h, h1⟩), if_neg (by omega)]
      simp [Lib.decFrom, Lib.digitVal, h1, show 48 ≤ a.toNat by omega]
    · rw [if_neg (show ¬ (49 ≤ a.toNat ∧ a.toNat ≤ 57) by omega), if_pos rfl]
      simp [Lib.decFrom, Lib.digitVal, h1]
  | [b], _ =>
    have e : smallN [a, b] = if (49 ≤ a.toNat ∧ a.toNat ≤ 57) ∧ 48 ≤ b.toNat ∧ b.toNat ≤ 57 then 10 * (a.toNat - 48) + (b.toNat - 48) else 0 := rfl
    rw [e]
    by_cases h1 : a.toNat ≤ 57
    · by_cases h2 : 48 ≤ b.toNat ∧ b.toNat ≤ 57
      · rw [if_pos (show (49 ≤ a.toNat ∧ a.toNat ≤ 57) ∧ 48 ≤ b.toNat ∧ b.toNat ≤ 57 from ⟨⟨h, h1⟩, h2⟩), if_neg (by omega)]
        simp [Lib.decFrom, Lib.digitVal, h1, show 48 ≤ a.toNat by omega, h2]
        omega
      · rw [if_neg (show ¬ ((49 ≤ a.toNat ∧ a.toNat ≤ 57) ∧ 48 ≤ b.toNat ∧ b.toNat ≤ 57) from fun k => h2 k.2), if_pos rfl]
        simp [Lib.decFrom, Lib.digitVal, h1, show 48 ≤ a.toNat by omega]
        rw [if_neg h2]
    · rw [if_neg (show ¬ ((49 ≤ a.toNat ∧ a.toNat ≤ 57) ∧ 48 ≤ b.toNat ∧ b.toNat ≤ 57) by omega), if_pos rfl]
      simp [Lib.decFrom, Lib.digitVal, h1]
  | b :: c :: t, hl => simp at hl
theorem lst_cons {s : ByteArray} (h : 0 < s.size) : ∃ r, lst s = s[0]'h :: r := by
  have hl : 0 < (lst s).length := by rw [← Lib.size_eq]; exact h
  cases hs : lst s with
  | nil => rw [hs] at hl; simp at hl
  | cons a r =>
    refine ⟨r, ?_⟩
    congr 1
    have h2 : (lst s)[0]? = some (s[0]'h) := by
      have h3 : 0 < s.data.size := h
      show s.data.toList[0]? = _
      rw [Array.getElem?_toList, Array.getElem?_eq_getElem h3]
      rfl
    rw [hs] at h2
    simpa using h2
theorem small_long {s : Str} (h : 2 < s.length) : smallN s = 0 := by
  match s, h with
  | [], h => simp at h
  | [a], h => simp at h
  | [a, b], h => simp at h
  | a :: b :: c :: t, _ => rfl
theorem small_low {a : UInt8} {r : Str} (h : a.toNat < 49) : smallN (a :: r) = 0 := by
  match r with
  | [] => exact if_neg (by omega)
  | [b] => exact if_neg (by omega)
  | b :: c :: t => rfl
def NumOut (s : ByteArray) (w : World) (e : Ending) (w' : World) : Prop :=
  e = .returned (.tuple #[.int .i64 ((smallN (lst s) : Nat) : Int), .bool (decide (smallN (lst s) ≠ 0))]) ∧ Below w.heap.size w w'

set_option maxHeartbeats 2000000 in
theorem padded2_any (s : ByteArray) (hz9 : ∀ a r, lst s = a :: r → a ≠ 48) (hz : s.size ≤ 4611686018427387904) (w : World) (hE : Env w) : Calls Tryd.prog 68 #[.string s, .int .i64 2] w (NumOut s w) := by
  unfold NumOut
  obtain ⟨N, hN⟩ : ∃ N, smallN (lst s) = N := ⟨_, rfl⟩
  rw [hN]
  by_cases h0 : 0 < s.size
  · obtain ⟨x1, x2, x3, x4⟩ := str_no h0
    obtain ⟨r, hr⟩ := lst_cons h0
    by_cases h2 : s.size ≤ 2
    · have h2' : (s.size : Int) ≤ 2 := by omega
      have h2'' : ¬ (2 : Int) < s.size := by omega
      obtain ⟨a, ha⟩ : ∃ a, s[0]'h0 = a := ⟨_, rfl⟩
      rw [ha] at hr
      have h48 : a.toNat ≠ 48 := fun e => hz9 a r hr (UInt8.toNat_inj.1 (by show a.toNat = 48; exact e))
      by_cases h3 : a.toNat < 49
      · have h3' : (a.toNat : Int) < 48 := by omega
        have : N = 0 := by rw [← hN, hr, small_low h3]
        subst this
        clear hN hr hE hz9 h48
        go_enter Tryd.func68, Tryd.ntmps68
        go_wp2
        go_ret2
        exact ⟨rfl, Below.refl _ _⟩
      · have h3' : ¬ (a.toNat : Int) < 48 := by omega
        have hat := atoi_small (lst s) a r hr (by rw [← Lib.size_eq]; exact h2) (by omega)
        rw [hN] at hat
        obtain ⟨ev, hev, hev2⟩ := hE.ev
        by_cases hn0 : N = 0
        · subst hn0
          rw [if_pos rfl] at hat
          have cA := hid (Tryd.strconv_Atoi_err s (by omega) hat ev w hev hev2)
          clear hN hr hE hz9 h48 hat hev hev2
          go_enter Tryd.func68, Tryd.ntmps68
          go_wp2_with fail
          refine cA.out.mono ?_
          rintro e w' ⟨M, rfl, _, _, hb⟩
          have HB := hid hb
          clear hb
          go_wp2
          go_ret2
          exact ⟨rfl, HB.out⟩
        · rw [if_neg hn0] at hat
          have cA := hid (Tryd.strconv_Atoi s N (by omega) hat w)
          have hd : decide (N ≠ 0) = true := decide_eq_true hn0
          rw [hd]
          clear hN hr hE hz9 h48 hat hev hev2 hd hn0
          go_enter Tryd.func68, Tryd.ntmps68
          go_wp2_with fail
          refine cA.out.mono ?_
          rintro e w' ⟨rfl, t, hw⟩
          have HB : Hid (Below w.heap.size w w') := hid (by rw [hw]; exact Lib.bytesWorld_below _ _ _)
          clear hw
          go_wp2
          go_ret2
          exact ⟨rfl, HB.out⟩
    · have h2' : ¬ (s.size : Int) ≤ 2 := by omega
      have h2'' : (2 : Int) < s.size := by omega
      have : N = 0 := by rw [← hN, small_long (by rw [← Lib.size_eq]; omega)]
      subst this
      clear hN hr hE hz9
      go_enter Tryd.func68, Tryd.ntmps68
      go_wp2
      go_ret2
      exact ⟨rfl, Below.refl _ _⟩
  · obtain ⟨x1, x2, x3, x4⟩ := str_yes h0
    have : N = 0 := by rw [← hN, lst_nil h0]; rfl
    subst this
    clear hN hE hz9
    go_enter Tryd.func68, Tryd.ntmps68
    go_wp2
    go_ret2
    exact ⟨rfl, Below.refl _ _⟩
theorem hasPrefix_one (a : UInt8) (r : Str) : Lib.hasPrefix (a :: r) [48] = (a == 48) := by
  show ((48 : UInt8) == a && ([] : Str).isPrefixOf r) = (a == 48)
  rw [Bool.eq_iff_iff]
  simp
  exact eq_comm
set_option maxHeartbeats 2000000 in
theorem read_any (s : ByteArray) (hz : s.size ≤ 4611686018427387904) (w : World) (hE : Env w) : Calls Tryd.prog 57 #[.string s, .int .i64 2] w (NumOut s w) := by
  have cH := fun w => Tryd.strings_HasPrefix s ⟨#[48]⟩ w
  rw [show s.data.toList = lst s from rfl, show (⟨#[48]⟩ : ByteArray).data.toList = [48] from rfl] at cH
  by_cases h9 : ∃ r, lst s = 48 :: r
  · obtain ⟨r, hr⟩ := h9
    have hN : smallN (lst s) = 0 := by rw [hr]; exact small_low (by decide)
    unfold NumOut
    rw [hN]
    rw [hr, hasPrefix_one] at cH
    clear hr hN hE
    go_enter Tryd.func57, Tryd.ntmps57
    go_wp2_with fail
    refine (cH _).mono ?_
    rintro e w' ⟨rfl, rfl⟩
    go_wp2
    go_ret2
    exact ⟨rfl, Below.refl _ _⟩
  · have hp : Lib.hasPrefix (lst s) [48] = false := by
      cases hl : lst s with
      | nil => rfl
      | cons a r =>
        rw [hasPrefix_one, beq_eq_false_iff_ne]
        rintro rfl
        exact h9 ⟨r, hl⟩
    rw [hp] at cH
    have cP := padded2_any s (fun a r hr e => h9 ⟨r, by rw [hr, e]⟩) hz w hE
    unfold NumOut at cP ⊢
    obtain ⟨N, hN⟩ : ∃ N, smallN (lst s) = N := ⟨_, rfl⟩
    rw [hN] at cP ⊢
    obtain ⟨D, hD⟩ : ∃ D, decide (N ≠ 0) = D := ⟨_, rfl⟩
    rw [hD] at cP ⊢
    have CP := hid cP
    clear hp hN h9 hE cP hD
    go_enter Tryd.func57, Tryd.ntmps57
    go_wp2_with fail
    refine (cH _).mono ?_
    rintro e w' ⟨rfl, rfl⟩
    go_wp2_with fail
    refine CP.out.mono ?_
    rintro e w' ⟨rfl, hb⟩
    have HB := hid hb
    clear hb
    go_wp2
    go_ret2
    exact ⟨rfl, HB.out⟩
end Go.Proofs.YtibbiddadkinhaaDoor

set_option linter.unusedVariables false
namespace Go.Proofs.YtibbiddadkinhaaDoor
open Go Go.Proofs Go.RowKit Go.Lib

def ItemOut (r : Nat × Int) (w : World) (e : Ending) (w' : World) : Prop := e = .returned (.tuple #[.int .i64 ((r.1 : Nat) : Int), .int .i64 r.2]) ∧ Below w.heap.size w w'
theorem ba_size (l : Str) : (ba l).size = l.length := rfl
theorem aft_le (c : UInt8) : ∀ s, (aft c s).length ≤ s.length
  | [] => Nat.le_refl _
  | x :: r => by
    unfold aft
    have := aft_le c r
    split <;> simp <;> omega
theorem bef_small {s : ByteArray} (c : UInt8) (hz : s.size ≤ 4611686018427387904) : (ba (bef c (lst s))).size ≤ 4611686018427387904 := by
  rw [ba_size]
  have := bef_le c (lst s)
  rw [← Lib.size_eq] at this
  omega
theorem aft_small {s : ByteArray} (c : UInt8) (hz : s.size ≤ 4611686018427387904) : (ba (aft c (lst s))).size ≤ 4611686018427387904 := by
  rw [ba_size]
  have := aft_le c (lst s)
  rw [← Lib.size_eq] at this
  omega

/-- What ReadSpan hands back. -/
def spanM (x : Str) : Nat × Nat × Bool := if fromN x = 0 ∨ toN x = 0 then (0, 0, false) else (fromN x, toN x, true)
def SpanOut (r : Nat × Nat × Bool) (w : World) (e : Ending) (w' : World) : Prop :=
  e = .returned (.tuple #[.int .i64 ((r.1 : Nat) : Int), .int .i64 ((r.2.1 : Nat) : Int), .bool r.2.2]) ∧ Below w.heap.size w w'

set_option maxHeartbeats 4000000 in
set_option maxRecDepth 100000 in
theorem readSpan_any (s : ByteArray) (hz : s.size ≤ 4611686018427387904) (w : World) (hE : Env w) :
    Calls Tryd.prog 45 #[.string s, .int .i64 2] w (SpanOut (spanM (lst s)) w) := by
  obtain ⟨R, hR⟩ : ∃ R, spanM (lst s) = R := ⟨_, rfl⟩
  rw [hR]
  have hsz := hE.size
  have HE := hid hE
  have cC := hid (fun w => cut_any s 45 hz w)
  have hAs := bef_small 45 hz
  have hBs := aft_small 45 hz
  obtain ⟨A, hA⟩ : ∃ A, ba (bef 45 (lst s)) = A := ⟨_, rfl⟩
  obtain ⟨B, hB⟩ : ∃ B, ba (aft 45 (lst s)) = B := ⟨_, rfl⟩
  obtain ⟨d, hd⟩ : ∃ d, has 45 (lst s) = d := ⟨_, rfl⟩
  have lA : bef 45 (lst s) = lst A := by rw [← hA]; rfl
  have lB : aft 45 (lst s) = lst B := by rw [← hB]; rfl
  rw [hA] at hAs
  rw [hB] at hBs
  have cC' := cC.out
  unfold CutOut at cC'
  rw [hA, hB, hd] at cC'
  have CC := hid cC'
  have cX := hid (fun w h => read_any A hAs w h)
  have cY := hid (fun w h => read_any B hBs w h)
  obtain ⟨x, hx⟩ : ∃ x, smallN (lst A) = x := ⟨_, rfl⟩
  obtain ⟨y, hy⟩ : ∃ y, smallN (lst B) = y := ⟨_, rfl⟩
  have hr2 : (if x = 0 ∨ (if d = true then y else x) = 0 then (0, 0, false) else (x, (if d = true then y else x), true)) = R := by
    rw [← hR]
    unfold spanM fromN toN
    rw [lA, lB, hd, hx, hy]
  have cX' := cX.out
  have cY' := cY.out
  unfold NumOut at cX' cY'
  rw [hx] at cX'
  rw [hy] at cY'
  have CX := hid cX'
  have CY := hid cY'
  -- the second number, of either way
  have key : ∀ (z : Nat) (CZ : Hid (∀ w, Env w → Calls Tryd.prog 57 #[.string (if d = true then B else A), .int .i64 2] w fun e w' => e = .returned (.tuple #[.int .i64 (z : Int), .bool (decide (z ≠ 0))]) ∧ Below w.heap.size w w'))
      (HZ : Hid ((if x = 0 ∨ z = 0 then (0, 0, false) else (x, z, true)) = R)),
      Calls Tryd.prog 45 #[.string s, .int .i64 2] w (SpanOut R w) := by
    clear CY hr2 hR hA hB hd lA lB hAs hBs cC cC' cX cY hx hy cX' cY'
    intro z CZ HZ
    obtain ⟨dx, hdx⟩ : ∃ dx, decide (x ≠ 0) = dx := ⟨_, rfl⟩
    obtain ⟨dz, hdz⟩ : ∃ dz, decide (z ≠ 0) = dz := ⟨_, rfl⟩
    have CX' := CX.out
    have CZ' := CZ.out
    rw [hdx] at CX'
    rw [hdz] at CZ'
    have C1 := hid CX'
    have C2 := hid CZ'
    have four : (decide (x ≠ 0) = true ∧ decide (z ≠ 0) = true ∧ R = (x, z, true)) ∨ (decide (x ≠ 0) = false ∧ R = (0, 0, false)) ∨ (decide (x ≠ 0) = true ∧ decide (z ≠ 0) = false ∧ R = (0, 0, false)) := by
      rcases Nat.eq_zero_or_pos x with h | h
      · exact .inr (.inl ⟨decide_eq_false (by omega), by rw [← HZ.out, if_pos (.inl h)]⟩)
      · rcases Nat.eq_zero_or_pos z with h2 | h2
        · exact .inr (.inr ⟨decide_eq_true (by omega), decide_eq_false (by omega), by rw [← HZ.out, if_pos (.inr h2)]⟩)
        · exact .inl ⟨decide_eq_true (by omega), decide_eq_true (by omega), by rw [← HZ.out, if_neg (by omega)]⟩
    rw [hdx, hdz] at four
    clear CX CZ CX' CZ' HZ hdx hdz
    rcases four with ⟨rfl, rfl, rfl⟩ | ⟨rfl, rfl⟩ | ⟨rfl, rfl, rfl⟩
    all_goals
      cases d
      all_goals
        go_enter Tryd.func45, Tryd.ntmps45
        go_wp2_with fail
        refine (CC.out _).mono ?_
        rintro e w2 ⟨rfl, q, hw2⟩
        have HB2 : Hid (Below w.heap.size w w2) := hid (by rw [hw2]; exact Go.below_drewN (Below.refl _ _) q)
        clear hw2
        go_wp2_with fail
        refine (C1.out _ (HE.out.below HB2.out hsz)).mono ?_
        rintro e w3 ⟨rfl, hb3⟩
        have HB3 := hid (HB2.out.trans (hb3.mono HB2.out.size))
        clear hb3
        go_wp2_with fail
        refine (C2.out _ (HE.out.below HB3.out hsz)).mono ?_
        rintro e w4 ⟨rfl, hb4⟩
        have HB4 := hid (HB3.out.trans (hb4.mono HB3.out.size))
        clear hb4
        go_wp2
        go_ret3
        exact ⟨rfl, HB4.out⟩
  cases d with
  | true =>
    refine key y (hid fun w h => CY.out w h) (hid ?_)
    rw [← hr2]
    simp
  | false =>
    refine key x (hid fun w h => CX.out w h) (hid ?_)
    rw [← hr2]
    simp

set_option maxHeartbeats 4000000 in
set_option maxRecDepth 100000 in
theorem readItem_any (s : ByteArray) (hz : s.size ≤ 4611686018427387904) (n : Nat) (h1 : 1 ≤ n) (h2 : n ≤ 20) (w : World) (hE : Env w) :
    Calls Tryd.prog 59 #[.string s, .int .i64 (n : Int)] w (ItemOut (itemM (lst s) n) w) := by
  obtain ⟨R, hR⟩ : ∃ R, itemM (lst s) n = R := ⟨_, rfl⟩
  rw [hR]
  have c37 := hid (setOf_any s n h1 h2 w hE.names)
  have hsz := hE.size
  have HE := hid hE
  cases hk : kindOf (lst s) with
  | some k =>
    have hr : R = (nmM k n, 0) := by
      rw [← hR]
      unfold itemM
      rw [hk]
    subst hr
    have hs : setOfM (lst s) n = (nmM k n, true) := by
      unfold setOfM
      rw [hk]
    have c37' := c37.out
    rw [hs] at c37'
    have C := hid c37'
    clear c37 c37' hs hk hR hE
    go_enter Tryd.func59, Tryd.ntmps59
    go_wp2_with fail
    refine C.out.mono ?_
    rintro e w' ⟨rfl, hb⟩
    have HB := hid hb
    clear hb
    go_wp2
    go_ret2
    exact ⟨rfl, HB.out⟩
  | none =>
    have hr : numM (lst s) n = R := by
      rw [← hR]
      unfold itemM
      rw [hk]
    have hs : setOfM (lst s) n = (0, false) := by
      unfold setOfM
      rw [hk]
    have c37' := c37.out
    rw [hs] at c37'
    have C := hid c37'
    have cP := hid (fun w h => readSpan_any s hz w h)
    have hxl : fromN (lst s) < 100 := smallN_lt _
    have hyl : toN (lst s) < 100 := by unfold toN; split <;> exact smallN_lt _
    unfold numM at hr
    have cP' := cP.out
    unfold SpanOut spanM at cP'
    obtain ⟨x, hx⟩ : ∃ x, fromN (lst s) = x := ⟨_, rfl⟩
    obtain ⟨y, hy⟩ : ∃ y, toN (lst s) = y := ⟨_, rfl⟩
    rw [hx, hy] at cP' hr
    rw [hx] at hxl
    rw [hy] at hyl
    clear c37 c37' hs hk hR hE cP hx hy
    by_cases h0 : x = 0 ∨ y = 0
    · rw [if_pos h0] at cP' hr
      subst hr
      have CP := hid cP'
      clear cP'
      go_enter Tryd.func59, Tryd.ntmps59
      go_wp2_with fail
      refine C.out.mono ?_
      rintro e w1 ⟨rfl, hb⟩
      have HB1 := hid hb
      clear hb
      go_wp2_with fail
      refine (CP.out _ (HE.out.below HB1.out hsz)).mono ?_
      rintro e w2 ⟨rfl, hb2⟩
      have HB2 := hid (HB1.out.trans (hb2.mono HB1.out.size))
      clear hb2
      go_wp2
      go_ret2
      exact ⟨rfl, HB2.out⟩
    · rw [if_neg h0] at cP' hr
      have CP := hid cP'
      clear cP'
      have three : (y < x ∨ (¬ y < x ∧ n < y)) ∨ (¬ y < x ∧ ¬ n < y) := by omega
      rcases three with hbad | ⟨hg1, hg2⟩
      · rw [if_pos (by omega)] at hr
        subst hr
        have hbad' : ((y : Int) < (x : Int)) ∨ (¬ (y : Int) < (x : Int) ∧ (n : Int) < (y : Int)) := by omega
        clear hbad
        rcases hbad' with hi1 | ⟨hi1, hi2⟩
        all_goals
          go_enter Tryd.func59, Tryd.ntmps59
          go_wp2_with fail
          refine C.out.mono ?_
          rintro e w1 ⟨rfl, hb⟩
          have HB1 := hid hb
          clear hb
          go_wp2_with fail
          refine (CP.out _ (HE.out.below HB1.out hsz)).mono ?_
          rintro e w2 ⟨rfl, hb2⟩
          have HB2 := hid (HB1.out.trans (hb2.mono HB1.out.size))
          clear hb2
          go_wp2
          go_ret2
          exact ⟨rfl, HB2.out⟩
      · rw [if_neg (by omega)] at hr
        subst hr
        have hi1 : ¬ (y : Int) < (x : Int) := by omega
        have hi2 : ¬ (n : Int) < (y : Int) := by omega
        obtain ⟨a, rfl⟩ : ∃ a, x = a + 1 := ⟨x - 1, by omega⟩
        have hca : ((a + 1 : Nat) : Int) = (a : Int) + 1 := by omega
        have CP' := CP.out
        dsimp only at CP'
        rw [hca] at CP' hi1
        have CP := hid CP'
        clear CP'
        have cS := hid (fun w => span_any a y (by omega) (by omega) w)
        go_enter Tryd.func59, Tryd.ntmps59
        go_wp2_with fail
        refine C.out.mono ?_
        rintro e w1 ⟨rfl, hb⟩
        have HB1 := hid hb
        clear hb
        go_wp2_with fail
        refine (CP.out _ (HE.out.below HB1.out hsz)).mono ?_
        rintro e w2 ⟨rfl, hb2⟩
        have HB2 := hid (HB1.out.trans (hb2.mono HB1.out.size))
        clear hb2
        go_wp2_with fail
        refine (cS.out _).mono ?_
        rintro e w5 ⟨rfl, q5, hw5⟩
        have HB5 : Hid (Below w.heap.size w w5) := hid (by rw [hw5]; exact Go.below_drewN HB2.out q5)
        clear hw5
        go_wp2
        go_ret2
        exact ⟨rfl, HB5.out⟩
end Go.Proofs.YtibbiddadkinhaaDoor

set_option linter.unusedVariables false
namespace Go.Proofs.YtibbiddadkinhaaDoor
open Go Go.Proofs Go.RowKit Go.Lib

theorem splitL_has : ∀ (l : Str), splitL l = if has 44 l = true then bef 44 l :: splitL (aft 44 l) else [l]
  | [] => rfl
  | c :: l => by
    have ih := splitL_has l
    by_cases hc : c = 44
    · subst hc
      simp [splitL, has, bef, aft]
    · have hb : (c == 44) = false := by simpa using hc
      simp only [splitL, if_neg hc, has, hb, Bool.false_or, bef, aft]
      rw [ih]
      cases has 44 l <;> simp
theorem parseN_of {s : Str} {n acc : Nat} {R : Nat × Int} (hR : parseN s n = R) (h : goP n (splitL s) 0 = (acc, 0)) : R = if acc = 0 then (0, 16) else (acc, 0) := by
  rw [← hR]
  unfold parseN
  rw [h]
  simp
theorem parseN_err {s : Str} {n : Nat} {e : Int} {R : Nat × Int} (hR : parseN s n = R) (h : goP n (splitL s) 0 = (0, e)) (he : e ≠ 0) : R = (0, e) := by
  rw [← hR]
  unfold parseN
  rw [h, if_pos he]

end Go.Proofs.YtibbiddadkinhaaDoor

set_option linter.unusedVariables false
namespace Go.Proofs.YtibbiddadkinhaaDoor
open Go Go.Lib

/-- How many bits from the i-th on are set, of k. -/
def cB (s : Nat) : Nat → Nat → Nat
  | _, 0 => 0
  | i, k + 1 => if bitB s i = true then cB s (i + 1) k + 1 else 0
end Go.Proofs.YtibbiddadkinhaaDoor

set_option linter.unusedVariables false
namespace Go.Proofs.YtibbiddadkinhaaDoor
open Go Go.Lib

theorem split_one : ∀ (x : Str), has 44 x = false → splitL x = [x] := fun x h => by rw [splitL_has, if_neg (by rw [h]; simp)]
theorem word_split : ∀ k : Fin 5, has 44 (wordS k.val) = false ∧ kindOf (wordS k.val) = some k.val := by decide
theorem go_word {n k : Nat} (hk : k < 5) (acc : Nat) : goP n (splitL (wordS k)) acc = (acc ||| nmM k n, 0) := by
  obtain ⟨h1, h2⟩ := word_split ⟨k, hk⟩
  dsimp only at h1 h2
  have hi : itemM (wordS k) n = (nmM k n, 0) := by unfold itemM; rw [h2]
  rw [split_one _ h1, goP_ok (by rw [hi]), hi]
  rfl
theorem parse_word {n k : Nat} (hk : k < 5) (hn1 : 1 ≤ n) (hn : n ≤ 20) (h : nmM k n ≠ 0) : parseM (wordS k) (n : Int) = (nmM k n, 0) := by
  unfold parseM
  rw [if_pos ⟨by omega, by omega⟩, Int.toNat_natCast]
  unfold parseN
  rw [go_word hk, Nat.zero_or, if_neg (by simp), if_neg h]
end Go.Proofs.YtibbiddadkinhaaDoor

set_option linter.unusedVariables false
namespace Go.Proofs.YtibbiddadkinhaaDoor
open Go Go.Lib

def GridP (d s b m : Int) : Prop := (1 ≤ d ∧ d ≤ 7) ∧ (1 ≤ s ∧ s ≤ 24) ∧ (0 ≤ b ∧ b ≤ 1439) ∧ (5 ≤ m ∧ m ≤ 120) ∧ b + s * m ≤ 1440
instance (d s b m : Int) : Decidable (GridP d s b m) := by unfold GridP; infer_instance
def gridB (d s b m : Int) : Bool := decide (GridP d s b m)
def frameB (d s b m n : Int) : Bool := decide (gridB d s b m = true ∧ 1 ≤ n ∧ n ≤ 20)
def SoundP (k y t l : Int) : Prop := validM k 20 = true ∧ (0 ≤ y ∧ y ≤ 6) ∧ 0 ≤ t ∧ 1 ≤ l ∧ t + l ≤ 24
instance (k y t l : Int) : Decidable (SoundP k y t l) := by unfold SoundP; infer_instance
def soundB (k y t l : Int) : Bool := decide (SoundP k y t l)
def fitsM (d s b m n k y t l : Int) : Int :=
  if frameB d s b m n = true then (if soundB k y t l = true ∧ validM k n = true ∧ y < d ∧ t + l ≤ s then 0 else 14) else 1
def meetB (k y t l k' y' t' l' : Int) : Bool := decide (soundB k y t l = true ∧ soundB k' y' t' l' = true ∧ bits .and .i64 k k' ≠ 0 ∧ y = y')
def gapI (t l t' l' : Int) : Int := max (max t t' - min (t + l) (t' + l')) (-1)
def betM (k y t l k' y' t' l' : Int) : Int × Bool := if meetB k y t l k' y' t' l' = true then (gapI t l t' l', true) else (0, false)
def overB (k y t l k' y' t' l' : Int) : Bool := (betM k y t l k' y' t' l').2 && decide ((betM k y t l k' y' t' l').1 < 0)
def befB (k y t l k' y' t' l' : Int) : Bool := decide (soundB k y t l = true ∧ soundB k' y' t' l' = true ∧ (y < y' ∨ y = y' ∧ t + l ≤ t'))
/-! ### texts of times -/
def dayS : Nat → Str
  | 0 => [77, 111]
  | 1 => [84, 117]
  | 2 => [87, 101]
  | 3 => [84, 104]
  | 4 => [70, 114]
  | 5 => [83, 97]
  | _ => [83, 117]
def dayK (x : Str) : Option Nat := (List.range 7).find? fun k => decide (dayS k = x)
/-- The words of a time's text. -/
def wDay (x : Str) : Str := bef 32 x
def wSlots (x : Str) : Str := bef 32 (aft 32 x)
def wSet (x : Str) : Str := aft 32 (aft 32 x)
def wThree (x : Str) : Bool := has 32 (aft 32 x)
/-- The words are as they must be: two or three of them. -/
def wordsB (x : Str) : Bool := decide (wThree x = true → wSet x ≠ [] ∧ has 32 (wSet x) = false)
/-- The weeks that a text names. -/
def weeksT (x : Str) (n : Nat) : Nat × Int := if wThree x = true then parseN (wSet x) n else (2 ^ n - 1, 0)
def readT (d s : Int) (n : Nat) (x : Str) (k : Nat) : (Int × Int × Int × Int) × Int :=
  if (k : Int) < d ∧ ¬ toN (wSlots x) < fromN (wSlots x) ∧ (toN (wSlots x) : Int) ≤ s then
    (if (weeksT x n).2 = 0 then ((((weeksT x n).1 : Nat), (k : Int), (fromN (wSlots x) : Int) - 1, (toN (wSlots x) : Int) - (fromN (wSlots x) : Int) + 1), 0) else ((0, 0, 0, 0), (weeksT x n).2))
  else ((0, 0, 0, 0), 14)
def bodyT (d s : Int) (n : Nat) (x : Str) : (Int × Int × Int × Int) × Int :=
  if wordsB x = true ∧ ¬ (fromN (wSlots x) = 0 ∨ toN (wSlots x) = 0) then (match dayK (wDay x) with | some k => readT d s n x k | none => ((0, 0, 0, 0), 4)) else ((0, 0, 0, 0), 4)
/-- What Parse hands back. -/
def timeM (d s b m n : Int) (x : Str) : (Int × Int × Int × Int) × Int := if frameB d s b m n = true then bodyT d s n.toNat x else ((0, 0, 0, 0), 1)
/-! ### what is used of them -/
theorem grid_of {d s b m : Int} (h : gridB d s b m = true) : GridP d s b m := of_decide_eq_true h
theorem frame_of {d s b m n : Int} (h : frameB d s b m n = true) : GridP d s b m ∧ 1 ≤ n ∧ n ≤ 20 := by
  obtain ⟨h1, h2⟩ := of_decide_eq_true h
  exact ⟨grid_of h1, h2⟩
theorem sound_of {k y t l : Int} (h : soundB k y t l = true) : SoundP k y t l := of_decide_eq_true h
theorem dayK_some {x : Str} {k : Nat} (h : dayK x = some k) : k < 7 ∧ dayS k = x := by
  have h1 := List.find?_some h
  have h2 := List.mem_of_find?_eq_some h
  exact ⟨List.mem_range.1 h2, by simpa using h1⟩
theorem dayK_of {k : Nat} {x : Str} (hk : k < 7) (h : dayS k = x) : dayK x = some k := by
  subst h
  rcases (show k = 0 ∨ k = 1 ∨ k = 2 ∨ k = 3 ∨ k = 4 ∨ k = 5 ∨ k = 6 by omega) with rfl | rfl | rfl | rfl | rfl | rfl | rfl <;> decide
theorem dayK_none {x : Str} (h : ∀ i, i < 7 → dayS i ≠ x) : dayK x = none := by
  unfold dayK
  rw [List.find?_eq_none]
  intro k hk
  simp only [decide_eq_true_eq]
  exact h k (List.mem_range.1 hk)
theorem nm_all : ∀ n : Fin 21, nmM 0 n.val = 2 ^ n.val - 1 := by decide +kernel
theorem parse_all {n : Nat} (h1 : 1 ≤ n) (h2 : n ≤ 20) : parseN [97, 108, 108] n = (2 ^ n - 1, 0) := by
  have hp : 2 ^ 1 ≤ 2 ^ n := pow_le h1
  have h0 := nm_all ⟨n, by omega⟩
  dsimp only at h0
  have h := parse_word (k := 0) (n := n) (by omega) h1 h2 (by rw [h0]; omega)
  rw [h0] at h
  unfold parseM at h
  rw [if_pos (by omega), Int.toNat_natCast] at h
  exact h
end Go.Proofs.YtibbiddadkinhaaDoor

set_option linter.unusedVariables false
namespace Go.Proofs.YtibbiddadkinhaaDoor
open Go Go.Proofs Go.RowKit Go.Lib

/-- The cells of the table of the days' names. -/
def dayCells : List Value := [.string (ba (dayS 0)), .string (ba (dayS 1)), .string (ba (dayS 2)), .string (ba (dayS 3)), .string (ba (dayS 4)), .string (ba (dayS 5)), .string (ba (dayS 6))]
def Days (w : World) : Prop := ∀ (j : Nat) (v : Value), dayCells[j]? = some v → w.cell? ⟨0, j, none⟩ = some v
theorem Days.below {w w' : World} (h : Days w) {B : Nat} (hb : Below B w w') (hB : 6 < B) : Days w' :=
  fun j v hj => (hb.cell (p := ⟨0, j, none⟩) (by show 0 < B; omega)).trans (h j v hj)
def DayEntry (AR : Array Value) : Prop := ∀ k, k < 7 → ∃ T : ByteArray, lst T = dayS k ∧ ∀ w, (Instr.index 59 (Value.agg AR) (Value.int IntKind.i64 (k : Int))).run Tryd.prog w = .ok (Value.string T) w
theorem day_idx : DayEntry dayCells.toArray := by
  intro k hk
  rcases (show k = 0 ∨ k = 1 ∨ k = 2 ∨ k = 3 ∨ k = 4 ∨ k = 5 ∨ k = 6 by omega) with rfl | rfl | rfl | rfl | rfl | rfl | rfl
  · exact ⟨ba (dayS 0), rfl, fun w => by kernel_rfl⟩
  · exact ⟨ba (dayS 1), rfl, fun w => by kernel_rfl⟩
  · exact ⟨ba (dayS 2), rfl, fun w => by kernel_rfl⟩
  · exact ⟨ba (dayS 3), rfl, fun w => by kernel_rfl⟩
  · exact ⟨ba (dayS 4), rfl, fun w => by kernel_rfl⟩
  · exact ⟨ba (dayS 5), rfl, fun w => by kernel_rfl⟩
  · exact ⟨ba (dayS 6), rfl, fun w => by kernel_rfl⟩
theorem load_days {w : World} (hT : Days w) : ∃ L : List Value, Hid (DayEntry L.toArray) ∧ w.rangeAt 0 0 L ∧ (Tryd.prog.info? 59).map (·.size) = some L.length :=
  ⟨dayCells, hid day_idx, fun j v h => by rw [Nat.zero_add]; exact hT j v h, by kernel_rfl⟩
def dayR (x : Str) : Nat × Bool := match dayK x with | some k => (k, true) | none => (0, false)

set_option maxHeartbeats 4000000 in
set_option maxRecDepth 100000 in
theorem dayOf_any (s : ByteArray) (w : World) (hT : Days w) :
    Calls Tryd.prog 44 #[.string s] w fun e w' => e = .returned (.tuple #[.int .i64 ((dayR (lst s)).1 : Nat), .bool (dayR (lst s)).2]) ∧ Below w.heap.size w w' := by
  obtain ⟨R, hR⟩ : ∃ R, dayR (lst s) = R := ⟨_, rfl⟩
  have HR := hid hR
  obtain ⟨L, hX, hL1, hL2⟩ := load_days hT
  have HL1 := hid hL1
  have HL2 := hid hL2
  clear hL1 hL2
  rw [hR]
  clear hR hT
  go_enter Tryd.func44, Tryd.ntmps44
  go_wp2_with (refine wpList_load_mid rfl 59 _ rfl 0 0 rfl L _ HL1.out Tryd.underlying59 rfl HL2.out ?_)
  generalize L.toArray = AR at hX ⊢
  clear HL1 HL2
  go_loopw [7] (fun iv wr => ∃ k : Nat, iv = .int .i64 (k : Int) ∧ k ≤ 7 ∧ Hid (∀ i, i < k → dayS i ≠ lst s) ∧ Hid (Below w.heap.size w wr)) (fun iv _ => 7 - (RowKit.intOf iv).toNat)
  case atStart => exact ⟨0, rfl, by omega, hid (fun i hi => absurd hi (by omega)), hid (Below.refl _ _)⟩
  case round =>
    obtain ⟨k, rfl, hk, hne, hB⟩ := hrel
    by_cases hlt : k < 7
    · have hltz : (k : Int) < 7 := by omega
      obtain ⟨T, hTw, hix⟩ := hX.out k hlt
      have HTW := hid hTw
      clear hTw
      by_cases hw : lst T = lst s
      · have hr : R = (k, true) := by
          rw [← HR.out]
          unfold dayR
          rw [dayK_of hlt (HTW.out.symm.trans hw)]
        subst hr
        have he := toListEq hw
        clear hw HR
        go_wp2
        go_ret2
        exact ⟨rfl, hB.out⟩
      · have hnx : Hid (∀ i, i < k + 1 → dayS i ≠ lst s) := hid (fun i hi => by
          rcases Nat.lt_or_ge i k with h | h
          · exact hne.out i h
          · obtain rfl : i = k := by omega
            exact fun e => hw (HTW.out.trans e))
        have he := toListNe hw
        clear hw
        go_wp2
        go_roundw
        case rel => exact ⟨k + 1, by go_num, by omega, hnx, hid hB.out⟩
        case measure => simp [RowKit.intOf]; omega
    · obtain rfl : k = 7 := by omega
      have hr : R = (0, false) := by
        rw [← HR.out]
        unfold dayR
        rw [dayK_none hne.out]
      subst hr
      go_wp2
      go_ret2
      exact ⟨rfl, hB.out⟩

theorem indexByte_has (c : UInt8) (s : Str) : decide (0 ≤ Lib.indexByte s c) = has c s := by
  rw [indexByte_bef]
  cases has c s with
  | true => rw [if_pos rfl]; exact decide_eq_true (by omega)
  | false => rw [if_neg (by simp)]; rfl
/-- The set of weeks that a text names, in writing. -/
def setT (x : Str) : Str := if wThree x = true then wSet x else [97, 108, 108]
theorem words_set (x : Str) : wordsB x = decide (setT x ≠ [] ∧ has 32 (setT x) = false) := by
  unfold wordsB setT
  cases wThree x with
  | true => simp
  | false => simp; decide
theorem results_4 {fn : Func} {p q r u : Tmp} (h : fn.results = #[.tmp p, .tmp q, .tmp r, .tmp u]) (tmps : Array Value) (P : Program) (w : World) (va vb vc vd : Value)
    (ha : tmps.getD p undef = va) (hb : tmps.getD q undef = vb) (hc : tmps.getD r undef = vc) (hd : tmps.getD u undef = vd) : (results fn tmps).run P w = .ok (.tuple #[va, vb, vc, vd]) w := by
  rw [Array.getD_eq_getD_getElem?] at ha hb hc hd
  simp only [results, h]
  simp [ha, hb, hc, hd]
def WordsOut (x : Str) (w : World) (e : Ending) (w' : World) : Prop :=
  e = .returned (.tuple #[.string (ba (wDay x)), .string (ba (wSlots x)), .string (ba (setT x)), .bool (wordsB x)]) ∧ Below w.heap.size w w'
set_option maxHeartbeats 4000000 in
set_option maxRecDepth 100000 in
theorem cutWords_any (s : ByteArray) (hz : s.size ≤ 4611686018427387904) (w : World) : Calls Tryd.prog 43 #[.string s] w (WordsOut (lst s) w) := by
  have c1 := fun w => cut_any s 32 hz w
  have hRs := aft_small (s := s) 32 hz
  obtain ⟨A, hA⟩ : ∃ A, ba (bef 32 (lst s)) = A := ⟨_, rfl⟩
  obtain ⟨R, hR⟩ : ∃ R, ba (aft 32 (lst s)) = R := ⟨_, rfl⟩
  obtain ⟨two, h2⟩ : ∃ two, has 32 (lst s) = two := ⟨_, rfl⟩
  have lR : aft 32 (lst s) = lst R := by rw [← hR]; rfl
  rw [hR] at hRs
  have c2 := fun w => cut_any R 32 hRs w
  have hCs := aft_small (s := R) 32 hRs
  obtain ⟨S, hS⟩ : ∃ S, ba (bef 32 (lst R)) = S := ⟨_, rfl⟩
  obtain ⟨C, hC⟩ : ∃ C, ba (aft 32 (lst R)) = C := ⟨_, rfl⟩
  obtain ⟨three, h3⟩ : ∃ three, has 32 (lst R) = three := ⟨_, rfl⟩
  have lC : aft 32 (lst R) = lst C := by rw [← hC]; rfl
  unfold CutOut at c1 c2
  rw [hA, hR, h2] at c1
  rw [hS, hC, h3] at c2
  unfold WordsOut
  rw [words_set]
  unfold setT wDay wSlots wThree wSet
  rw [hA, lR, hS, h3, lC]
  have cK := fun w => Tryd.strings_Contains_one C 32 w
  have cK2 := fun w => Tryd.strings_Contains_one ⟨#[97, 108, 108]⟩ 32 w
  rw [show Lib.indexByte C.data.toList 32 = Lib.indexByte (lst C) 32 from rfl, indexByte_has] at cK
  rw [show decide (0 ≤ Lib.indexByte (⟨#[97, 108, 108]⟩ : ByteArray).data.toList 32) = false by decide] at cK2
  have C1 := hid c1
  have C2 := hid c2
  clear c1 c2 hRs hCs hA hR h2 lR hS hC h3 lC hz
  cases three with
  | false =>
    rw [if_neg (by simp), show decide (([97, 108, 108] : Str) ≠ [] ∧ has 32 [97, 108, 108] = false) = true by decide]
    go_enter Tryd.func43, Tryd.ntmps43
    go_wp2_with fail
    refine (C1.out _).mono ?_
    rintro e w1 ⟨rfl, q1, hq1⟩
    have HB1 : Hid (Below w.heap.size w w1) := hid (by rw [hq1]; exact Go.below_drewN (Below.refl _ _) q1)
    clear hq1
    go_wp2_with fail
    refine (C2.out _).mono ?_
    rintro e w2 ⟨rfl, q2, hq2⟩
    have HB2 : Hid (Below w.heap.size w w2) := hid (by rw [hq2]; exact Go.below_drewN HB1.out q2)
    clear hq2
    go_wp2_with fail
    refine (cK2 _).mono ?_
    rintro e w3 ⟨rfl, rfl⟩
    go_wp2
    refine bodyPost_ret (v := .tuple #[.string A, .string S, .string (ba [97, 108, 108]), .bool true]) (results_4 rfl _ _ _ _ _ _ _ rfl rfl rfl rfl) rfl ?_
    exact ⟨rfl, HB2.out⟩
  | true =>
    rw [if_pos rfl, ba_lst]
    by_cases h0 : 0 < C.size
    · obtain ⟨x1, x2, x3, x4⟩ := str_no h0
      rw [show decide (lst C ≠ [] ∧ has 32 (lst C) = false) = !(has 32 (lst C)) by
        have := lst_ne h0
        cases has 32 (lst C) <;> simp [this]]
      generalize has 32 (lst C) = H at cK ⊢
      clear h0
      go_enter Tryd.func43, Tryd.ntmps43
      go_wp2_with fail
      refine (C1.out _).mono ?_
      rintro e w1 ⟨rfl, q1, hq1⟩
      have HB1 : Hid (Below w.heap.size w w1) := hid (by rw [hq1]; exact Go.below_drewN (Below.refl _ _) q1)
      clear hq1
      go_wp2_with fail
      refine (C2.out _).mono ?_
      rintro e w2 ⟨rfl, q2, hq2⟩
      have HB2 : Hid (Below w.heap.size w w2) := hid (by rw [hq2]; exact Go.below_drewN HB1.out q2)
      clear hq2
      go_wp2_with fail
      refine (cK _).mono ?_
      rintro e w3 ⟨rfl, rfl⟩
      go_wp2
      refine bodyPost_ret (v := .tuple #[.string A, .string S, .string C, .bool (!H)]) (results_4 rfl _ _ _ _ _ _ _ rfl rfl rfl rfl) rfl ?_
      exact ⟨rfl, HB2.out⟩
    · obtain ⟨x1, x2, x3, x4⟩ := str_yes h0
      rw [decide_eq_false (fun h => h.1 (lst_nil h0))]
      clear h0
      go_enter Tryd.func43, Tryd.ntmps43
      go_wp2_with fail
      refine (C1.out _).mono ?_
      rintro e w1 ⟨rfl, q1, hq1⟩
      have HB1 : Hid (Below w.heap.size w w1) := hid (by rw [hq1]; exact Go.below_drewN (Below.refl _ _) q1)
      clear hq1
      go_wp2_with fail
      refine (C2.out _).mono ?_
      rintro e w2 ⟨rfl, q2, hq2⟩
      have HB2 : Hid (Below w.heap.size w w2) := hid (by rw [hq2]; exact Go.below_drewN HB1.out q2)
      clear hq2
      go_wp2
      refine bodyPost_ret (v := .tuple #[.string A, .string S, .string C, .bool false]) (results_4 rfl _ _ _ _ _ _ _ rfl rfl rfl rfl) rfl ?_
      exact ⟨rfl, HB2.out⟩
end Go.Proofs.YtibbiddadkinhaaDoor

