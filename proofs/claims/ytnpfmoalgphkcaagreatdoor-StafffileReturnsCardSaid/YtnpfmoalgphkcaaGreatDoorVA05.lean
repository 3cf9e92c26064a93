/-
  Cutting at a sign; numbers of at most two digits: Read of numerals. Conditions: the library's variable holds an error.
  A number or two with '-' between: ReadSpan of numerals; an item of a set: the program's readItem. Conditions: the variables hold what their text lays; the number of weeks is from 1 to 20.
  The specification's Cut, Small and Decimal. Conditions: the strings fit into memory; the number is below 100.
  The specification's Parse. Conditions: the words lie in memory as the text says; the string fits into memory.
-/
import Derived.Test.YtnpfmoalgphkcaaGreatDoorVA03
import Derived.Test.YtnpfmoalgphkcaaGreatDoorVA04
import Derived.Lib.AtoiErrMem
import Derived.Handy
set_option linter.unusedVariables false
namespace Go.Proofs.YtnpfmoalgphkcaaGreatDoor
open Go Go.Proofs Go.RowKit Go.Lib

/-- What the package-level variables hold. -/
structure Env (w : World) : Prop where
  names : Names w
  ev : ∃ ev, w.cell? ⟨9, 0, none⟩ = some ev ∧ (ev = .nilIface ∨ ∃ te pe, ev = .iface te pe)
  size : 9 < w.heap.size
theorem Env.below {w w' : World} (h : Env w) {B : Nat} (hb : Below B w w') (hB : 9 < B) : Env w' := by
  obtain ⟨ev, he, hk⟩ := h.ev
  have hs := h.size
  exact ⟨fun j v hj => (hb.cell (p := ⟨4, j, none⟩) (by show 4 < B; omega)).trans (h.names j v hj),
    ⟨ev, (hb.cell (p := ⟨9, 0, none⟩) (by show 9 < B; omega)).trans he, hk⟩, Nat.le_trans hs hb.size⟩

theorem Words.below {w w' : World} (h : Words w) {B : Nat} (hb : Below B w w') (hB : 9 < B) : Words w' :=
  fun k hk => (hb.cell (p := ⟨3, k, none⟩) (by show 3 < B; omega)).trans (h k hk)

theorem bef_ext (s : ByteArray) (c : UInt8) (hc : has c (lst s) = true) : s.extract 0 (bef c (lst s)).length = ba (bef c (lst s)) := by
  rw [← ba_lst (s.extract 0 (bef c (lst s)).length), lst_extract, List.drop_zero, bef_take]
theorem aft_ext (s : ByteArray) (c : UInt8) (hc : has c (lst s) = true) : s.extract ((bef c (lst s)).length + 1) s.size = ba (aft c (lst s)) := by
  rw [← ba_lst (s.extract _ _), lst_extract, List.take_of_length_le (by rw [← Lib.size_eq]; exact Nat.le_refl _), aft_drop c _ hc]
def CutOut (c : UInt8) (s : ByteArray) (w : World) (e : Ending) (w' : World) : Prop :=
  e = .returned (.tuple #[.string (ba (bef c (lst s))), .string (ba (aft c (lst s))), .bool (has c (lst s))]) ∧ ∃ n, w' = w.drewN n

set_option maxHeartbeats 1000000 in
theorem cut49 (s : ByteArray) (c : UInt8) (hs : s.size ≤ 4611686018427387904) (w : World) : Calls Tryz.prog 139 #[.string s, .string ⟨#[c]⟩] w (CutOut c s w) := by
  unfold CutOut
  have cI := fun w => Tryz.stringslite_Index_one s c w
  have hi := indexByte_bef c (lst s)
  have hle := bef_le c (lst s)
  rw [show (lst s).length = s.size from (Lib.size_eq s).symm] at hle
  rw [show Lib.indexByte s.data.toList c = Lib.indexByte (lst s) c from rfl] at cI
  cases hc : has c (lst s) with
  | false =>
    obtain ⟨e1, e2⟩ := bef_miss c (lst s) hc
    rw [e1, e2, ba_lst]
    rw [hc, if_neg (by decide)] at hi
    rw [hi] at cI
    clear hi e1 e2 hc hle
    go_enter Tryz.func139, Tryz.ntmps139
    go_wp2_with (go_at_call 138; refine (cI _).mono ?_; rintro e w' ⟨rfl, rfl⟩)
    go_ret3
    exact ⟨rfl, 0, rfl⟩
  | true =>
    rw [hc, if_pos rfl] at hi
    have h0 := congrArg List.length (bef_hit c (lst s) hc)
    simp only [List.length_append, List.length_cons] at h0
    rw [show (lst s).length = s.size from (Lib.size_eq s).symm] at h0
    have v1 := bef_ext s c hc
    have v2 := aft_ext s c hc
    rw [hi] at cI
    generalize (bef c (lst s)).length = k at *
    have c2 : (k : Int) ≤ (s.size : Int) := by omega
    have c4 : ((k : Int) + 1 ≤ (s.size : Int)) := by omega
    have e1 : IntKind.i64.wrap ((k : Int) + 1) = (k : Int) + 1 := IntWalk.i64_in _ (by omega)
    have V1 := hid v1
    have V2 := hid v2
    clear hi h0 hc v1 v2 hle
    rw [← V1.out, ← V2.out]
    go_enter Tryz.func139, Tryz.ntmps139
    go_wp2_with (go_at_call 138; refine (cI _).mono ?_; rintro e w' ⟨rfl, rfl⟩)
    go_quiet (fail)
    go_wp2
    go_ret3
    exact ⟨rfl, _, rfl⟩
set_option maxHeartbeats 1000000 in
theorem cut_any (s : ByteArray) (c : UInt8) (hs : s.size ≤ 4611686018427387904) (w : World) : Calls Tryz.prog 128 #[.string s, .string ⟨#[c]⟩] w (CutOut c s w) := by
  have cI := cut49 s c hs
  unfold CutOut at cI ⊢
  obtain ⟨A, hA⟩ : ∃ A, ba (bef c (lst s)) = A := ⟨_, rfl⟩
  obtain ⟨B, hB⟩ : ∃ B, ba (aft c (lst s)) = B := ⟨_, rfl⟩
  rw [hA, hB] at cI ⊢
  clear hA hB
  go_enter Tryz.func128, Tryz.ntmps128
  go_wp2_with fail
  refine (cI _).mono ?_
  rintro e w' ⟨rfl, n, rfl⟩
  go_wp2
  go_ret3
  exact ⟨rfl, n, rfl⟩

/-! ### numbers -/
theorem atoi_dec (a : UInt8) (r : Str) (h : 49 ≤ a.toNat) : Lib.atoi (a :: r) = (Lib.decFrom 0 (a :: r)).map fun (n : Nat) => (n : Int) := by
  have e1 : (a == 45) = false := by
    rw [beq_eq_false_iff_ne]
    rintro rfl
    simp at h
  have e2 : (a == 43) = false := by
    rw [beq_eq_false_iff_ne]
    rintro rfl
    simp at h
  unfold Lib.atoi
  dsimp only
  rw [e1, e2, if_neg (by simp), if_neg (by simp)]
  unfold Lib.decNat
  rw [if_neg (by simp)]
theorem atoi_small (s : Str) (a : UInt8) (r : Str) (hs : s = a :: r) (hl : s.length ≤ 2) (h : 49 ≤ a.toNat) : Lib.atoi s = if smallN s = 0 then none else some ((smallN s : Nat) : Int) := by
  subst hs
  rw [atoi_dec a r h]
  match r, hl with
  | [], _ =>
    have e : smallN [a] = if 49 ≤ a.toNat ∧ a.toNat ≤ 57 then a.toNat - 48 else 0 := rfl
    rw [e]
    by_cases h1 : a.toNat ≤ 57
    · rw [if_pos (show 49 ≤ a.toNat ∧ a.toNat ≤ 57 from ⟨h, h1⟩), if_neg (by omega)]
      simp [Lib.decFrom, Lib.digitVal, h1, show 48 ≤ a.toNat by omega]
    · rw [if_neg (show ¬ (49 ≤ a.toNat ∧ a.toNat ≤ 57) by omega), if_pos rfl]
      simp [Lib.decFrom, Lib.digitVal, h1]
  | [b], _ =>
    have e : smallN [a, b] = if (49 ≤ a.toNat ∧ a.toNat ≤ 57) ∧ 48 ≤ b.toNat ∧ b.toNat ≤ 57 then 10 * (a.toNat - 48) + (b.toNat - 48) else 0 := rfl
    rw [e]
    by_cases h1 : a.toNat ≤ 57
    · by_cases h2 : 48 ≤ b.toNat ∧ b.toNat ≤ 57
      · rw [if_pos (show (49 ≤ a.toNat ∧ a.toNat ≤ 57) ∧ 48 ≤ b.toNat ∧ b.toNat ≤ 57 from ⟨⟨h, h1⟩, h2⟩), if_neg (by omega)]
        simp [Lib.decFrom, Lib.digitVal, h1, show 48 ≤ a.toNat by omega, h2]
        omega
      · rw [if_neg (show ¬ ((49 ≤ a.toNat ∧ a.toNat ≤ 57) ∧ 48 ≤ b.toNat ∧ b.toNat ≤ 57) from fun k => h2 k.2), if_pos rfl]
        simp [Lib.decFrom, Lib.digitVal, h1, show 48 ≤ a.toNat by omega]
        rw [if_neg h2]
    · rw [if_neg (show ¬ ((49 ≤ a.toNat ∧ a.toNat ≤ 57) ∧ 48 ≤ b.toNat ∧ b.toNat ≤ 57) by omega), if_pos rfl]
      simp [Lib.decFrom, Lib.digitVal, h1]
  | b :: c :: t, hl => simp at hl
theorem lst_cons {s : ByteArray} (h : 0 < s.size) : ∃ r, lst s = s[0]'h :: r := by
  have hl : 0 < (lst s).length := by rw [← Lib.size_eq]; exact h
  cases hs : lst s with
  | nil => rw [hs] at hl; simp at hl
  | cons a r =>
    refine ⟨r, ?_⟩
    congr 1
    have h2 : (lst s)[0]? = some (s[0]'h) := by
      have h3 : 0 < s.data.size := h
      show s.data.toList[0]? = _
      rw [Array.getElem?_toList, Array.getElem?_eq_getElem h3]
      rfl
    rw [hs] at h2
    simpa using h2
theorem small_long {s : Str} (h : 2 < s.length) : smallN s = 0 := by
  match s, h with
  | [], h => simp at h
  | [a], h => simp at h
  | [a, b], h => simp at h
  | a :: b :: c :: t, _ => rfl
theorem small_low {a : UInt8} {r : Str} (h : a.toNat < 49) : smallN (a :: r) = 0 := by
  match r with
  | [] => exact if_neg (by omega)
  | [b] => exact if_neg (by omega)
  | b :: c :: t => rfl
def NumOut (s : ByteArray) (w : World) (e : Ending) (w' : World) : Prop :=
  e = .returned (.tuple #[.int .i64 ((smallN (lst s) : Nat) : Int), .bool (decide (smallN (lst s) ≠ 0))]) ∧ Below w.heap.size w w'

set_option maxHeartbeats 2000000 in
theorem padded2_any (s : ByteArray) (hz9 : ∀ a r, lst s = a :: r → a ≠ 48) (hz : s.size ≤ 4611686018427387904) (w : World) (hE : Env w) : Calls Tryz.prog 141 #[.string s, .int .i64 2] w (NumOut s w) := by
  unfold NumOut
  obtain ⟨N, hN⟩ : ∃ N, smallN (lst s) = N := ⟨_, rfl⟩
  rw [hN]
  by_cases h0 : 0 < s.size
  · obtain ⟨x1, x2, x3, x4⟩ := str_no h0
    obtain ⟨r, hr⟩ := lst_cons h0
    by_cases h2 : s.size ≤ 2
    · have h2' : (s.size : Int) ≤ 2 := by omega
      have h2'' : ¬ (2 : Int) < s.size := by omega
      obtain ⟨a, ha⟩ : ∃ a, s[0]'h0 = a := ⟨_, rfl⟩
      rw [ha] at hr
      have h48 : a.toNat ≠ 48 := fun e => hz9 a r hr (UInt8.toNat_inj.1 (by show a.toNat = 48; exact e))
      by_cases h3 : a.toNat < 49
      · have h3' : (a.toNat : Int) < 48 := by omega
        have : N = 0 := by rw [← hN, hr, small_low h3]
        subst this
        clear hN hr hE hz9 h48
        go_enter Tryz.func141, Tryz.ntmps141
        go_wp2
        go_ret2
        exact ⟨rfl, Below.refl _ _⟩
      · have h3' : ¬ (a.toNat : Int) < 48 := by omega
        have hat := atoi_small (lst s) a r hr (by rw [← Lib.size_eq]; exact h2) (by omega)
        rw [hN] at hat
        obtain ⟨ev, hev, hev2⟩ := hE.ev
        by_cases hn0 : N = 0
        · subst hn0
          rw [if_pos rfl] at hat
          have cA := hid (Tryz.strconv_Atoi_err s (by omega) hat ev w hev hev2)
          clear hN hr hE hz9 h48 hat hev hev2
          go_enter Tryz.func141, Tryz.ntmps141
          go_wp2_with fail
          refine cA.out.mono ?_
          rintro e w' ⟨M, rfl, _, _, hb⟩
          have HB := hid hb
          clear hb
          go_wp2
          go_ret2
          exact ⟨rfl, HB.out⟩
        · rw [if_neg hn0] at hat
          have cA := hid (Tryz.strconv_Atoi s N (by omega) hat w)
          have hd : decide (N ≠ 0) = true := decide_eq_true hn0
          rw [hd]
          clear hN hr hE hz9 h48 hat hev hev2 hd hn0
          go_enter Tryz.func141, Tryz.ntmps141
          go_wp2_with fail
          refine cA.out.mono ?_
          rintro e w' ⟨rfl, t, hw⟩
          have HB : Hid (Below w.heap.size w w') := hid (by rw [hw]; exact Lib.bytesWorld_below _ _ _)
          clear hw
          go_wp2
          go_ret2
          exact ⟨rfl, HB.out⟩
    · have h2' : ¬ (s.size : Int) ≤ 2 := by omega
      have h2'' : (2 : Int) < s.size := by omega
      have : N = 0 := by rw [← hN, small_long (by rw [← Lib.size_eq]; omega)]
      subst this
      clear hN hr hE hz9
      go_enter Tryz.func141, Tryz.ntmps141
      go_wp2
      go_ret2
      exact ⟨rfl, Below.refl _ _⟩
  · obtain ⟨x1, x2, x3, x4⟩ := str_yes h0
    have : N = 0 := by rw [← hN, lst_nil h0]; rfl
    subst this
    clear hN hE hz9
    go_enter Tryz.func141, Tryz.ntmps141
    go_wp2
    go_ret2
    exact ⟨rfl, Below.refl _ _⟩
theorem hasPrefix_one (a : UInt8) (r : Str) : Lib.hasPrefix (a :: r) [48] = (a == 48) := by
  show ((48 : UInt8) == a && ([] : Str).isPrefixOf r) = (a == 48)
  rw [Bool.eq_iff_iff]
  simp
  exact eq_comm
set_option maxHeartbeats 2000000 in
theorem read_any (s : ByteArray) (hz : s.size ≤ 4611686018427387904) (w : World) (hE : Env w) : Calls Tryz.prog 130 #[.string s, .int .i64 2] w (NumOut s w) := by
  have cH := fun w => Tryz.strings_HasPrefix s ⟨#[48]⟩ w
  rw [show s.data.toList = lst s from rfl, show (⟨#[48]⟩ : ByteArray).data.toList = [48] from rfl] at cH
  by_cases h9 : ∃ r, lst s = 48 :: r
  · obtain ⟨r, hr⟩ := h9
    have hN : smallN (lst s) = 0 := by rw [hr]; exact small_low (by decide)
    unfold NumOut
    rw [hN]
    rw [hr, hasPrefix_one] at cH
    clear hr hN hE
    go_enter Tryz.func130, Tryz.ntmps130
    go_wp2_with fail
    refine (cH _).mono ?_
    rintro e w' ⟨rfl, rfl⟩
    go_wp2
    go_ret2
    exact ⟨rfl, Below.refl _ _⟩
  · have hp : Lib.hasPrefix (lst s) [48] = false := by
      cases hl : lst s with
      | nil => rfl
      | cons a r =>
        rw [hasPrefix_one, beq_eq_false_iff_ne]
        rintro rfl
        exact h9 ⟨r, hl⟩
    rw [hp] at cH
    have cP := padded2_any s (fun a r hr e => h9 ⟨r, by rw [hr, e]⟩) hz w hE
    unfold NumOut at cP ⊢
    obtain ⟨N, hN⟩ : ∃ N, smallN (lst s) = N := ⟨_, rfl⟩
    rw [hN] at cP ⊢
    obtain ⟨D, hD⟩ : ∃ D, decide (N ≠ 0) = D := ⟨_, rfl⟩
    rw [hD] at cP ⊢
    have CP := hid cP
    clear hp hN h9 hE cP hD
    go_enter Tryz.func130, Tryz.ntmps130
    go_wp2_with fail
    refine (cH _).mono ?_
    rintro e w' ⟨rfl, rfl⟩
    go_wp2_with fail
    refine CP.out.mono ?_
    rintro e w' ⟨rfl, hb⟩
    have HB := hid hb
    clear hb
    go_wp2
    go_ret2
    exact ⟨rfl, HB.out⟩
end Go.Proofs.YtnpfmoalgphkcaaGreatDoor

set_option linter.unusedVariables false
namespace Go.Proofs.YtnpfmoalgphkcaaGreatDoor
open Go Go.Proofs Go.RowKit Go.Lib

def ItemOut (r : Nat × Int) (w : World) (e : Ending) (w' : World) : Prop := e = .returned (.tuple #[.int .i64 ((r.1 : Nat) : Int), .int .i64 r.2]) ∧ Below w.heap.size w w'
theorem ba_size (l : Str) : (ba l).size = l.length := rfl
theorem aft_le (c : UInt8) : ∀ s, (aft c s).length ≤ s.length
  | [] => Nat.le_refl _
  | x :: r => by
    unfold aft
    have := aft_le c r
    split <;> simp <;> omega
theorem bef_small {s : ByteArray} (c : UInt8) (hz : s.size ≤ 4611686018427387904) : (ba (bef c (lst s))).size ≤ 4611686018427387904 := by
  rw [ba_size]
  have := bef_le c (lst s)
  rw [← Lib.size_eq] at this
  omega
theorem aft_small {s : ByteArray} (c : UInt8) (hz : s.size ≤ 4611686018427387904) : (ba (aft c (lst s))).size ≤ 4611686018427387904 := by
  rw [ba_size]
  have := aft_le c (lst s)
  rw [← Lib.size_eq] at this
  omega

/-- What ReadSpan hands back. -/
def spanM (x : Str) : Nat × Nat × Bool := if fromN x = 0 ∨ toN x = 0 then (0, 0, false) else (fromN x, toN x, true)
def SpanOut (r : Nat × Nat × Bool) (w : World) (e : Ending) (w' : World) : Prop :=
  e = .returned (.tuple #[.int .i64 ((r.1 : Nat) : Int), .int .i64 ((r.2.1 : Nat) : Int), .bool r.2.2]) ∧ Below w.heap.size w w'

set_option maxHeartbeats 4000000 in
set_option maxRecDepth 100000 in
theorem readSpan_any (s : ByteArray) (hz : s.size ≤ 4611686018427387904) (w : World) (hE : Env w) :
    Calls Tryz.prog 110 #[.string s, .int .i64 2] w (SpanOut (spanM (lst s)) w) := by
  obtain ⟨R, hR⟩ : ∃ R, spanM (lst s) = R := ⟨_, rfl⟩
  rw [hR]
  have hsz := hE.size
  have HE := hid hE
  have cC := hid (fun w => cut_any s 45 hz w)
  have hAs := bef_small 45 hz
  have hBs := aft_small 45 hz
  obtain ⟨A, hA⟩ : ∃ A, ba (bef 45 (lst s)) = A := ⟨_, rfl⟩
  obtain ⟨B, hB⟩ : ∃ B, ba (aft 45 (lst s)) = B := ⟨_, rfl⟩
  obtain ⟨d, hd⟩ : ∃ d, has 45 (lst s) = d := ⟨_, rfl⟩
  have lA : bef 45 (lst s) = lst A := by rw [← hA]; rfl
  have lB : aft 45 (lst s) = lst B := by rw [← hB]; rfl
  rw [hA] at hAs
  rw [hB] at hBs
  have cC' := cC.out
  unfold CutOut at cC'
  rw [hA, hB, hd] at cC'
  have CC := hid cC'
  have cX := hid (fun w h => read_any A hAs w h)
  have cY := hid (fun w h => read_any B hBs w h)
  obtain ⟨x, hx⟩ : ∃ x, smallN (lst A) = x := ⟨_, rfl⟩
  obtain ⟨y, hy⟩ : ∃ y, smallN (lst B) = y := ⟨_, rfl⟩
  have hr2 : (if x = 0 ∨ (if d = true then y else x) = 0 then (0, 0, false) else (x, (if d = true then y else x), true)) = R := by
    rw [← hR]
    unfold spanM fromN toN
    rw [lA, lB, hd, hx, hy]
  have cX' := cX.out
  have cY' := cY.out
  unfold NumOut at cX' cY'
  rw [hx] at cX'
  rw [hy] at cY'
  have CX := hid cX'
  have CY := hid cY'
  -- the second number, of either way
  have key : ∀ (z : Nat) (CZ : Hid (∀ w, Env w → Calls Tryz.prog 130 #[.string (if d = true then B else A), .int .i64 2] w fun e w' => e = .returned (.tuple #[.int .i64 (z : Int), .bool (decide (z ≠ 0))]) ∧ Below w.heap.size w w'))
      (HZ : Hid ((if x = 0 ∨ z = 0 then (0, 0, false) else (x, z, true)) = R)),
      Calls Tryz.prog 110 #[.string s, .int .i64 2] w (SpanOut R w) := by
    clear CY hr2 hR hA hB hd lA lB hAs hBs cC cC' cX cY hx hy cX' cY'
    intro z CZ HZ
    obtain ⟨dx, hdx⟩ : ∃ dx, decide (x ≠ 0) = dx := ⟨_, rfl⟩
    obtain ⟨dz, hdz⟩ : ∃ dz, decide (z ≠ 0) = dz := ⟨_, rfl⟩
    have CX' := CX.out
    have CZ' := CZ.out
    rw [hdx] at CX'
    rw [hdz] at CZ'
    have C1 := hid CX'
    have C2 := hid CZ'
    have four : (decide (x ≠ 0) = true ∧ decide (z ≠ 0) = true ∧ R = (x, z, true)) ∨ (decide (x ≠ 0) = false ∧ R = (0, 0, false)) ∨ (decide (x ≠ 0) = true ∧ decide (z ≠ 0) = false ∧ R = (0, 0, false)) := by
      rcases Nat.eq_zero_or_pos x with h | h
      · exact .inr (.inl ⟨decide_eq_false (by omega), by rw [← HZ.out, if_pos (.inl h)]⟩)
      · rcases Nat.eq_zero_or_pos z with h2 | h2
        · exact .inr (.inr ⟨decide_eq_true (by omega), decide_eq_false (by omega), by rw [← HZ.out, if_pos (.inr h2)]⟩)
        · exact .inl ⟨decide_eq_true (by omega), decide_eq_true (by omega), by rw [← HZ.out, if_neg (by omega)]⟩
    rw [hdx, hdz] at four
    clear CX CZ CX' CZ' HZ hdx hdz
    rcases four with ⟨rfl, rfl, rfl⟩ | ⟨rfl, rfl⟩ | ⟨rfl, rfl, rfl⟩
    all_goals
      cases d
      all_goals
        go_enter Tryz.func110, Tryz.ntmps110
        go_wp2_with fail
        refine (CC.out _).mono ?_
        rintro e w2 ⟨rfl, q, hw2⟩
        have HB2 : Hid (Below w.heap.size w w2) := hid (by rw [hw2]; exact below_drewN (Below.refl _ _) q)
        clear hw2
        go_wp2_with fail
        refine (C1.out _ (HE.out.below HB2.out hsz)).mono ?_
        rintro e w3 ⟨rfl, hb3⟩
        have HB3 := hid (HB2.out.trans (hb3.mono HB2.out.size))
        clear hb3
        go_wp2_with fail
        refine (C2.out _ (HE.out.below HB3.out hsz)).mono ?_
        rintro e w4 ⟨rfl, hb4⟩
        have HB4 := hid (HB3.out.trans (hb4.mono HB3.out.size))
        clear hb4
        go_wp2
        go_ret3
        exact ⟨rfl, HB4.out⟩
  cases d with
  | true =>
    refine key y (hid fun w h => CY.out w h) (hid ?_)
    rw [← hr2]
    simp
  | false =>
    refine key x (hid fun w h => CX.out w h) (hid ?_)
    rw [← hr2]
    simp

set_option maxHeartbeats 4000000 in
set_option maxRecDepth 100000 in
theorem readItem_any (s : ByteArray) (hz : s.size ≤ 4611686018427387904) (n : Nat) (h1 : 1 ≤ n) (h2 : n ≤ 20) (w : World) (hE : Env w) :
    Calls Tryz.prog 131 #[.string s, .int .i64 (n : Int)] w (ItemOut (itemM (lst s) n) w) := by
  obtain ⟨R, hR⟩ : ∃ R, itemM (lst s) n = R := ⟨_, rfl⟩
  rw [hR]
  have c37 := hid (setOf_any s n h1 h2 w hE.names)
  have hsz := hE.size
  have HE := hid hE
  cases hk : kindOf (lst s) with
  | some k =>
    have hr : R = (nmM k n, 0) := by
      rw [← hR]
      unfold itemM
      rw [hk]
    subst hr
    have hs : setOfM (lst s) n = (nmM k n, true) := by
      unfold setOfM
      rw [hk]
    have c37' := c37.out
    rw [hs] at c37'
    have C := hid c37'
    clear c37 c37' hs hk hR hE
    go_enter Tryz.func131, Tryz.ntmps131
    go_wp2_with fail
    refine C.out.mono ?_
    rintro e w' ⟨rfl, hb⟩
    have HB := hid hb
    clear hb
    go_wp2
    go_ret2
    exact ⟨rfl, HB.out⟩
  | none =>
    have hr : numM (lst s) n = R := by
      rw [← hR]
      unfold itemM
      rw [hk]
    have hs : setOfM (lst s) n = (0, false) := by
      unfold setOfM
      rw [hk]
    have c37' := c37.out
    rw [hs] at c37'
    have C := hid c37'
    have cP := hid (fun w h => readSpan_any s hz w h)
    have hxl : fromN (lst s) < 100 := smallN_lt _
    have hyl : toN (lst s) < 100 := by unfold toN; split <;> exact smallN_lt _
    unfold numM at hr
    have cP' := cP.out
    unfold SpanOut spanM at cP'
    obtain ⟨x, hx⟩ : ∃ x, fromN (lst s) = x := ⟨_, rfl⟩
    obtain ⟨y, hy⟩ : ∃ y, toN (lst s) = y := ⟨_, rfl⟩
    rw [hx, hy] at cP' hr
    rw [hx] at hxl
    rw [hy] at hyl
    clear c37 c37' hs hk hR hE cP hx hy
    by_cases h0 : x = 0 ∨ y = 0
    · rw [if_pos h0] at cP' hr
      subst hr
      have CP := hid cP'
      clear cP'
      go_enter Tryz.func131, Tryz.ntmps131
      go_wp2_with fail
      refine C.out.mono ?_
      rintro e w1 ⟨rfl, hb⟩
      have HB1 := hid hb
      clear hb
      go_wp2_with fail
      refine (CP.out _ (HE.out.below HB1.out hsz)).mono ?_
      rintro e w2 ⟨rfl, hb2⟩
      have HB2 := hid (HB1.out.trans (hb2.mono HB1.out.size))
      clear hb2
      go_wp2
      go_ret2
      exact ⟨rfl, HB2.out⟩
    · rw [if_neg h0] at cP' hr
      have CP := hid cP'
      clear cP'
      have three : (y < x ∨ (¬ y < x ∧ n < y)) ∨ (¬ y < x ∧ ¬ n < y) := by omega
      rcases three with hbad | ⟨hg1, hg2⟩
      · rw [if_pos (by omega)] at hr
        subst hr
        have hbad' : ((y : Int) < (x : Int)) ∨ (¬ (y : Int) < (x : Int) ∧ (n : Int) < (y : Int)) := by omega
        clear hbad
        rcases hbad' with hi1 | ⟨hi1, hi2⟩
        all_goals
          go_enter Tryz.func131, Tryz.ntmps131
          go_wp2_with fail
          refine C.out.mono ?_
          rintro e w1 ⟨rfl, hb⟩
          have HB1 := hid hb
          clear hb
          go_wp2_with fail
          refine (CP.out _ (HE.out.below HB1.out hsz)).mono ?_
          rintro e w2 ⟨rfl, hb2⟩
          have HB2 := hid (HB1.out.trans (hb2.mono HB1.out.size))
          clear hb2
          go_wp2
          go_ret2
          exact ⟨rfl, HB2.out⟩
      · rw [if_neg (by omega)] at hr
        subst hr
        have hi1 : ¬ (y : Int) < (x : Int) := by omega
        have hi2 : ¬ (n : Int) < (y : Int) := by omega
        obtain ⟨a, rfl⟩ : ∃ a, x = a + 1 := ⟨x - 1, by omega⟩
        have hca : ((a + 1 : Nat) : Int) = (a : Int) + 1 := by omega
        have CP' := CP.out
        dsimp only at CP'
        rw [hca] at CP' hi1
        have CP := hid CP'
        clear CP'
        have cS := hid (fun w => span_any a y (by omega) (by omega) w)
        go_enter Tryz.func131, Tryz.ntmps131
        go_wp2_with fail
        refine C.out.mono ?_
        rintro e w1 ⟨rfl, hb⟩
        have HB1 := hid hb
        clear hb
        go_wp2_with fail
        refine (CP.out _ (HE.out.below HB1.out hsz)).mono ?_
        rintro e w2 ⟨rfl, hb2⟩
        have HB2 := hid (HB1.out.trans (hb2.mono HB1.out.size))
        clear hb2
        go_wp2_with fail
        refine (cS.out _).mono ?_
        rintro e w5 ⟨rfl, q5, hw5⟩
        have HB5 : Hid (Below w.heap.size w w5) := hid (by rw [hw5]; exact below_drewN HB2.out q5)
        clear hw5
        go_wp2
        go_ret2
        exact ⟨rfl, HB5.out⟩
end Go.Proofs.YtnpfmoalgphkcaaGreatDoor

set_option linter.unusedVariables false
namespace Go.Proofs.YtnpfmoalgphkcaaGreatDoor
open Go Go.Proofs Go.RowKit Go.Lib

/-! ### Small -/
def numN (l : Str) : Nat := l.foldl (fun n c => 10 * n + (c.toNat - 48)) 0
end Go.Proofs.YtnpfmoalgphkcaaGreatDoor

set_option linter.unusedVariables false
namespace Go.Proofs.YtnpfmoalgphkcaaGreatDoor
open Go Go.Proofs Go.RowKit Go.Lib

theorem splitL_has : ∀ (l : Str), splitL l = if has 44 l = true then bef 44 l :: splitL (aft 44 l) else [l]
  | [] => rfl
  | c :: l => by
    have ih := splitL_has l
    by_cases hc : c = 44
    · subst hc
      simp [splitL, has, bef, aft]
    · have hb : (c == 44) = false := by simpa using hc
      simp only [splitL, if_neg hc, has, hb, Bool.false_or, bef, aft]
      rw [ih]
      cases has 44 l <;> simp
theorem parseN_of {s : Str} {n acc : Nat} {R : Nat × Int} (hR : parseN s n = R) (h : goP n (splitL s) 0 = (acc, 0)) : R = if acc = 0 then (0, 16) else (acc, 0) := by
  rw [← hR]
  unfold parseN
  rw [h]
  simp
theorem parseN_err {s : Str} {n : Nat} {e : Int} {R : Nat × Int} (hR : parseN s n = R) (h : goP n (splitL s) 0 = (0, e)) (he : e ≠ 0) : R = (0, e) := by
  rw [← hR]
  unfold parseN
  rw [h, if_pos he]

end Go.Proofs.YtnpfmoalgphkcaaGreatDoor

