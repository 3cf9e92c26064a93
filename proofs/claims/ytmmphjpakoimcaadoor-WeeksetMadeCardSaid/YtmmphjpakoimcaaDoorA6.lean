/-
  Cutting at a sign; numbers of at most two digits: Read of numerals. Conditions: the library's variable holds an error.
-/
import Derived.Test.YtmmphjpakoimcaaDoorA5
import Derived.Test.YtmmphjpakoimcaaDoorShelf
import Derived.Lib.AtoiErrMem
import Derived.Handy
set_option linter.unusedVariables false
namespace Go.Proofs.YtmmphjpakoimcaaDoor
open Go Go.Proofs Go.RowKit Go.Lib

/-- What the package-level variables hold. -/
structure Env (w : World) : Prop where
  names : Names w
  ev : ∃ ev, w.cell? ⟨6, 0, none⟩ = some ev ∧ (ev = .nilIface ∨ ∃ te pe, ev = .iface te pe)
  size : 6 < w.heap.size
theorem Env.below {w w' : World} (h : Env w) {B : Nat} (hb : Below B w w') (hB : 6 < B) : Env w' := by
  obtain ⟨ev, he, hk⟩ := h.ev
  have hs := h.size
  exact ⟨fun j v hj => (hb.cell (p := ⟨1, j, none⟩) (by show 1 < B; omega)).trans (h.names j v hj),
    ⟨ev, (hb.cell (p := ⟨6, 0, none⟩) (by show 6 < B; omega)).trans he, hk⟩, Nat.le_trans hs hb.size⟩

theorem Words.below {w w' : World} (h : Words w) {B : Nat} (hb : Below B w w') (hB : 6 < B) : Words w' :=
  fun k hk => (hb.cell (p := ⟨0, k, none⟩) (by show 0 < B; omega)).trans (h k hk)

theorem bef_ext (s : ByteArray) (c : UInt8) (hc : has c (lst s) = true) : s.extract 0 (bef c (lst s)).length = ba (bef c (lst s)) := by
  rw [← ba_lst (s.extract 0 (bef c (lst s)).length), lst_extract, List.drop_zero, bef_take]
theorem aft_ext (s : ByteArray) (c : UInt8) (hc : has c (lst s) = true) : s.extract ((bef c (lst s)).length + 1) s.size = ba (aft c (lst s)) := by
  rw [← ba_lst (s.extract _ _), lst_extract, List.take_of_length_le (by rw [← Lib.size_eq]; exact Nat.le_refl _), aft_drop c _ hc]
def CutOut (c : UInt8) (s : ByteArray) (w : World) (e : Ending) (w' : World) : Prop :=
  e = .returned (.tuple #[.string (ba (bef c (lst s))), .string (ba (aft c (lst s))), .bool (has c (lst s))]) ∧ ∃ n, w' = w.drewN n

set_option maxHeartbeats 1000000 in
theorem cut49 (s : ByteArray) (c : UInt8) (hs : s.size ≤ 4611686018427387904) (w : World) : Calls Tryd.prog 55 #[.string s, .string ⟨#[c]⟩] w (CutOut c s w) := by
  unfold CutOut
  have cI := fun w => Tryd.stringslite_Index_one s c w
  have hi := indexByte_bef c (lst s)
  have hle := bef_le c (lst s)
  rw [show (lst s).length = s.size from (Lib.size_eq s).symm] at hle
  rw [show Lib.indexByte s.data.toList c = Lib.indexByte (lst s) c from rfl] at cI
  cases hc : has c (lst s) with
  | false =>
    obtain ⟨e1, e2⟩ := bef_miss c (lst s) hc
    rw [e1, e2, ba_lst]
    rw [hc, if_neg (by decide)] at hi
    rw [hi] at cI
    clear hi e1 e2 hc hle
    go_enter Tryd.func55, Tryd.ntmps55
    go_wp2_with (go_at_call 54; refine (cI _).mono ?_; rintro e w' ⟨rfl, rfl⟩)
    go_ret3
    exact ⟨rfl, 0, rfl⟩
  | true =>
    rw [hc, if_pos rfl] at hi
    have h0 := congrArg List.length (bef_hit c (lst s) hc)
    simp only [List.length_append, List.length_cons] at h0
    rw [show (lst s).length = s.size from (Lib.size_eq s).symm] at h0
    have v1 := bef_ext s c hc
    have v2 := aft_ext s c hc
    rw [hi] at cI
    generalize (bef c (lst s)).length = k at *
    have c2 : (k : Int) ≤ (s.size : Int) := by omega
    have c4 : ((k : Int) + 1 ≤ (s.size : Int)) := by omega
    have e1 : IntKind.i64.wrap ((k : Int) + 1) = (k : Int) + 1 := IntWalk.i64_in _ (by omega)
    have V1 := hid v1
    have V2 := hid v2
    clear hi h0 hc v1 v2 hle
    rw [← V1.out, ← V2.out]
    go_enter Tryd.func55, Tryd.ntmps55
    go_wp2_with (go_at_call 54; refine (cI _).mono ?_; rintro e w' ⟨rfl, rfl⟩)
    go_quiet (fail)
    go_wp2
    go_ret3
    exact ⟨rfl, _, rfl⟩
set_option maxHeartbeats 1000000 in
theorem cut_any (s : ByteArray) (c : UInt8) (hs : s.size ≤ 4611686018427387904) (w : World) : Calls Tryd.prog 48 #[.string s, .string ⟨#[c]⟩] w (CutOut c s w) := by
  have cI := cut49 s c hs
  unfold CutOut at cI ⊢
  obtain ⟨A, hA⟩ : ∃ A, ba (bef c (lst s)) = A := ⟨_, rfl⟩
  obtain ⟨B, hB⟩ : ∃ B, ba (aft c (lst s)) = B := ⟨_, rfl⟩
  rw [hA, hB] at cI ⊢
  clear hA hB
  go_enter Tryd.func48, Tryd.ntmps48
  go_wp2_with fail
  refine (cI _).mono ?_
  rintro e w' ⟨rfl, n, rfl⟩
  go_wp2
  go_ret3
  exact ⟨rfl, n, rfl⟩

/-! ### numbers -/
theorem atoi_dec (a : UInt8) (r : Str) (h : 49 ≤ a.toNat) : Lib.atoi (a :: r) = (Lib.decFrom 0 (a :: r)).map fun (n : Nat) => (n : Int) := by
  have e1 : (a == 45) = false := by
    rw [beq_eq_false_iff_ne]
    rintro rfl
    simp at h
  have e2 : (a == 43) = false := by
    rw [beq_eq_false_iff_ne]
    rintro rfl
    simp at h
  unfold Lib.atoi
  dsimp only
  rw [e1, e2, if_neg (by simp), if_neg (by simp)]
  unfold Lib.decNat
  rw [if_neg (by simp)]
theorem atoi_small (s : Str) (a : UInt8) (r : Str) (hs : s = a :: r) (hl : s.length ≤ 2) (h : 49 ≤ a.toNat) : Lib.atoi s = if smallN s = 0 then none else some ((smallN s : Nat) : Int) := by
  subst hs
  rw [atoi_dec a r h]
  match r, hl with
  | [], _ =>
    have e : smallN [a] = if 49 ≤ a.toNat ∧ a.toNat ≤ 57 then a.toNat - 48 else 0 := rfl
    rw [e]
    by_cases h1 : a.toNat ≤ 57
    · rw [if_pos (show 49 ≤ a.toNat ∧ a.toNat ≤ 57 from ⟨h, h1⟩), if_neg (by omega)]
      simp [Lib.decFrom, Lib.digitVal, h1, show 48 ≤ a.toNat by omega]
    · rw [if_neg (show ¬ (49 ≤ a.toNat ∧ a.toNat ≤ 57) by omega), if_pos rfl]
      simp [Lib.decFrom, Lib.digitVal, h1]
  | [b], _ =>
    have e : smallN [a, b] = if (49 ≤ a.toNat ∧ a.toNat ≤ 57) ∧ 48 ≤ b.toNat ∧ b.toNat ≤ 57 then 10 * (a.toNat - 48) + (b.toNat - 48) else 0 := rfl
    rw [e]
    by_cases h1 : a.toNat ≤ 57
    · by_cases h2 : 48 ≤ b.toNat ∧ b.toNat ≤ 57
      · rw [if_pos (show (49 ≤ a.toNat ∧ a.toNat ≤ 57) ∧ 48 ≤ b.toNat ∧ b.toNat ≤ 57 from ⟨⟨h, h1⟩, h2⟩), if_neg (by omega)]
        simp [Lib.decFrom, Lib.digitVal, h1, show 48 ≤ a.toNat by omega, h2]
        omega
      · rw [if_neg (show ¬ ((49 ≤ a.toNat ∧ a.toNat ≤ 57) ∧ 48 ≤ b.toNat ∧ b.toNat ≤ 57) from fun k => h2 k.2), if_pos rfl]
        simp [Lib.decFrom, Lib.digitVal, h1, show 48 ≤ a.toNat by omega]
        rw [if_neg h2]
    · rw [if_neg (show ¬ ((49 ≤ a.toNat ∧ a.toNat ≤ 57) ∧ 48 ≤ b.toNat ∧ b.toNat ≤ 57) by omega), if_pos rfl]
      simp [Lib.decFrom, Lib.digitVal, h1]
  | b :: c :: t, hl => simp at hl
theorem lst_cons {s : ByteArray} (h : 0 < s.size) : ∃ r, lst s = s[0]'h :: r := by
  have hl : 0 < (lst s).length := by rw [← Lib.size_eq]; exact h
  cases hs : lst s with
  | nil => rw [hs] at hl; simp at hl
  | cons a r =>
    refine ⟨r, ?_⟩
    congr 1
    have h2 : (lst s)[0]? = some (s[0]'h) := by
      have h3 : 0 < s.data.size := h
      show s.data.toList[0]? = _
      rw [Array.getElem?_toList, Array.getElem?_eq_getElem h3]
      rfl
    rw [hs] at h2
    simpa using h2
theorem small_long {s : Str} (h : 2 < s.length) : smallN s = 0 := by
  match s, h with
  | [], h => simp at h
  | [a], h => simp at h
  | [a, b], h => simp at h
  | a :: b :: c :: t, _ => rfl
theorem small_low {a : UInt8} {r : Str} (h : a.toNat < 49) : smallN (a :: r) = 0 := by
  match r with
  | [] => exact if_neg (by omega)
  | [b] => exact if_neg (by omega)
  | b :: c :: t => rfl
def NumOut (s : ByteArray) (w : World) (e : Ending) (w' : World) : Prop :=
  e = .returned (.tuple #[.int .i64 ((smallN (lst s) : Nat) : Int), .bool (decide (smallN (lst s) ≠ 0))]) ∧ Below w.heap.size w w'

set_option maxHeartbeats 2000000 in
theorem padded2_any (s : ByteArray) (hz9 : ∀ a r, lst s = a :: r → a ≠ 48) (hz : s.size ≤ 4611686018427387904) (w : World) (hE : Env w) : Calls Tryd.prog 57 #[.string s, .int .i64 2] w (NumOut s w) := by
  unfold NumOut
  obtain ⟨N, hN⟩ : ∃ N, smallN (lst s) = N := ⟨_, rfl⟩
  rw [hN]
  by_cases h0 : 0 < s.size
  · obtain ⟨x1, x2, x3, x4⟩ := str_no h0
    obtain ⟨r, hr⟩ := lst_cons h0
    by_cases h2 : s.size ≤ 2
    · have h2' : (s.size : Int) ≤ 2 := by omega
      have h2'' : ¬ (2 : Int) < s.size := by omega
      obtain ⟨a, ha⟩ : ∃ a, s[0]'h0 = a := ⟨_, rfl⟩
      rw [ha] at hr
      have h48 : a.toNat ≠ 48 := fun e => hz9 a r hr (UInt8.toNat_inj.1 (by show a.toNat = 48; exact e))
      by_cases h3 : a.toNat < 49
      · have h3' : (a.toNat : Int) < 48 := by omega
        have : N = 0 := by rw [← hN, hr, small_low h3]
        subst this
        clear hN hr hE hz9 h48
        go_enter Tryd.func57, Tryd.ntmps57
        go_wp2
        go_ret2
        exact ⟨rfl, Below.refl _ _⟩
      · have h3' : ¬ (a.toNat : Int) < 48 := by omega
        have hat := atoi_small (lst s) a r hr (by rw [← Lib.size_eq]; exact h2) (by omega)
        rw [hN] at hat
        obtain ⟨ev, hev, hev2⟩ := hE.ev
        by_cases hn0 : N = 0
        · subst hn0
          rw [if_pos rfl] at hat
          have cA := hid (Tryd.strconv_Atoi_err s (by omega) hat ev w hev hev2)
          clear hN hr hE hz9 h48 hat hev hev2
          go_enter Tryd.func57, Tryd.ntmps57
          go_wp2_with fail
          refine cA.out.mono ?_
          rintro e w' ⟨M, rfl, _, _, hb⟩
          have HB := hid hb
          clear hb
          go_wp2
          go_ret2
          exact ⟨rfl, HB.out⟩
        · rw [if_neg hn0] at hat
          have cA := hid (Tryd.strconv_Atoi s N (by omega) hat w)
          have hd : decide (N ≠ 0) = true := decide_eq_true hn0
          rw [hd]
          clear hN hr hE hz9 h48 hat hev hev2 hd hn0
          go_enter Tryd.func57, Tryd.ntmps57
          go_wp2_with fail
          refine cA.out.mono ?_
          rintro e w' ⟨rfl, t, hw⟩
          have HB : Hid (Below w.heap.size w w') := hid (by rw [hw]; exact Lib.bytesWorld_below _ _ _)
          clear hw
          go_wp2
          go_ret2
          exact ⟨rfl, HB.out⟩
    · have h2' : ¬ (s.size : Int) ≤ 2 := by omega
      have h2'' : (2 : Int) < s.size := by omega
      have : N = 0 := by rw [← hN, small_long (by rw [← Lib.size_eq]; omega)]
      subst this
      clear hN hr hE hz9
      go_enter Tryd.func57, Tryd.ntmps57
      go_wp2
      go_ret2
      exact ⟨rfl, Below.refl _ _⟩
  · obtain ⟨x1, x2, x3, x4⟩ := str_yes h0
    have : N = 0 := by rw [← hN, lst_nil h0]; rfl
    subst this
    clear hN hE hz9
    go_enter Tryd.func57, Tryd.ntmps57
    go_wp2
    go_ret2
    exact ⟨rfl, Below.refl _ _⟩
theorem hasPrefix_one (a : UInt8) (r : Str) : Lib.hasPrefix (a :: r) [48] = (a == 48) := by
  show ((48 : UInt8) == a && ([] : Str).isPrefixOf r) = (a == 48)
  rw [Bool.eq_iff_iff]
  simp
  exact eq_comm
set_option maxHeartbeats 2000000 in
theorem read_any (s : ByteArray) (hz : s.size ≤ 4611686018427387904) (w : World) (hE : Env w) : Calls Tryd.prog 49 #[.string s, .int .i64 2] w (NumOut s w) := by
  have cH := fun w => Tryd.strings_HasPrefix s ⟨#[48]⟩ w
  rw [show s.data.toList = lst s from rfl, show (⟨#[48]⟩ : ByteArray).data.toList = [48] from rfl] at cH
  by_cases h9 : ∃ r, lst s = 48 :: r
  · obtain ⟨r, hr⟩ := h9
    have hN : smallN (lst s) = 0 := by rw [hr]; exact small_low (by decide)
    unfold NumOut
    rw [hN]
    rw [hr, hasPrefix_one] at cH
    clear hr hN hE
    go_enter Tryd.func49, Tryd.ntmps49
    go_wp2_with fail
    refine (cH _).mono ?_
    rintro e w' ⟨rfl, rfl⟩
    go_wp2
    go_ret2
    exact ⟨rfl, Below.refl _ _⟩
  · have hp : Lib.hasPrefix (lst s) [48] = false := by
      cases hl : lst s with
      | nil => rfl
      | cons a r =>
        rw [hasPrefix_one, beq_eq_false_iff_ne]
        rintro rfl
        exact h9 ⟨r, hl⟩
    rw [hp] at cH
    have cP := padded2_any s (fun a r hr e => h9 ⟨r, by rw [hr, e]⟩) hz w hE
    unfold NumOut at cP ⊢
    obtain ⟨N, hN⟩ : ∃ N, smallN (lst s) = N := ⟨_, rfl⟩
    rw [hN] at cP ⊢
    obtain ⟨D, hD⟩ : ∃ D, decide (N ≠ 0) = D := ⟨_, rfl⟩
    rw [hD] at cP ⊢
    have CP := hid cP
    clear hp hN h9 hE cP hD
    go_enter Tryd.func49, Tryd.ntmps49
    go_wp2_with fail
    refine (cH _).mono ?_
    rintro e w' ⟨rfl, rfl⟩
    go_wp2_with fail
    refine CP.out.mono ?_
    rintro e w' ⟨rfl, hb⟩
    have HB := hid hb
    clear hb
    go_wp2
    go_ret2
    exact ⟨rfl, HB.out⟩
end Go.Proofs.YtmmphjpakoimcaaDoor
