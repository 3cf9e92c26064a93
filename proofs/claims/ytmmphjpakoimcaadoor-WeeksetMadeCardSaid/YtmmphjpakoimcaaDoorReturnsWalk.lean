/-
  The walks of WeeksetReturns, WeeksetHalves, WeeksetUnites. Conditions: the variables hold what their text lays.
-/
import Derived.Test.YtmmphjpakoimcaaDoorRM
import Derived.Test.YtmmphjpakoimcaaDoorAwake
set_option linter.unusedVariables false
namespace Go.Proofs.YtmmphjpakoimcaaDoor
open Go Go.Proofs Go.RowKit Go.Lib

/-- A number of weeks, a set, by Mod. -/
theorem mod_weeks (N : Int) : ∃ n : Nat, modI N 20 = (n : Int) ∧ n ≤ 19 := by
  have h := modI_range N 20 (by omega)
  exact ⟨(modI N 20).toNat, by omega, by omega⟩
theorem mod_set (S : Int) (n : Nat) (h1 : 1 ≤ n) (h2 : n ≤ 20) : ∃ s : Nat, modI S ((2 : Int) ^ n - 1) = (s : Int) ∧ 1 + s < 2 ^ n := by
  have hp := powI n h2
  have h2' : (2 : Int) ^ 1 ≤ 2 ^ n := by
    have := pow_le h1
    have e : (2 : Int) ^ n = ((2 ^ n : Nat) : Int) := by rw [Int.natCast_pow]; rfl
    omega
  have e : (2 : Int) ^ n = ((2 ^ n : Nat) : Int) := by rw [Int.natCast_pow]; rfl
  have h := modI_range S ((2 : Int) ^ n - 1) (by omega)
  exact ⟨(modI S ((2 : Int) ^ n - 1)).toNat, by omega, by omega⟩
theorem valid_of {s n : Nat} (h1 : 1 ≤ s) (hs : s < 2 ^ n) (hn1 : 1 ≤ n) (hn : n ≤ 20) : validM (s : Int) (n : Int) = true := by
  have e : (2 : Int) ^ n = ((2 ^ n : Nat) : Int) := by rw [Int.natCast_pow]; rfl
  exact validM_yes hn1 hn (by omega) (by omega)
theorem weeksM_of {s n : Nat} (h1 : 1 ≤ s) (hs : s < 2 ^ n) (hn : n ≤ 20) : weeksM (s : Int) = castL (weeksP s 20) := by
  have := Nat.lt_of_lt_of_le hs (pow_le hn)
  unfold weeksM setOk
  rw [if_pos (decide_eq_true ⟨by omega, by omega⟩), Int.toNat_natCast]

theorem form_len {s n : Nat} : (formN s n).length ≤ 200 := by
  unfold formN
  cases nameK s n with
  | some k =>
    show (wordS k).length ≤ 200
    unfold wordS
    split <;> simp
  | none =>
    show (textM s).length ≤ 200
    unfold textM
    have h1 := joinC_len ((runs (weeksP s 20)).map fun r => itemT r.1 r.2) (fun x hx => by
      obtain ⟨r, _, rfl⟩ := List.mem_map.1 hx
      exact itemT_len _ _)
    have h2 := runs_len _ (weeksP s 20) (Nat.le_refl _)
    have h3 := weeksP_len s 20
    rw [List.length_map] at h1
    omega
/-- Format and Parse of a set. -/
theorem form_call {s n : Nat} (h1 : 1 ≤ s) (hs : s < 2 ^ n) (hn1 : 1 ≤ n) (hn : n ≤ 20) (w : World) (hE : Names w) :
    Calls Tryd.prog 10 #[.int .i64 (s : Int), .int .i64 (n : Int)] w fun e w' => e = .returned (.tuple #[.string (ba (formN s n)), .int .i64 0]) ∧ Below w.heap.size w w' := by
  have h := format_any (s : Int) (n : Int) w hE
  rw [formM_yes (valid_of h1 hs hn1 hn)] at h
  exact h
theorem rform_call {s n : Nat} (h1 : 1 ≤ s) (hs : s < 2 ^ n) (hn1 : 1 ≤ n) (hn : n ≤ 20) (w : World) (hE : Words w) :
    Calls Tryd.prog 11 #[.int .i64 (s : Int), .int .i64 (n : Int)] w fun e w' => e = .returned (.tuple #[.string (ba (formN s n)), .int .i64 0]) ∧ Below w.heap.size w w' := by
  have h := rformat_any (s : Int) (n : Int) w hE
  rw [formM_yes (valid_of h1 hs hn1 hn)] at h
  exact h
theorem parse_call {t : Str} {v n : Nat} (hp : parseM t (n : Int) = (v, 0)) (hl : t.length ≤ 1000) (w : World) (hE : Env w) :
    Calls Tryd.prog 8 #[.string (ba t), .int .i64 (n : Int)] w fun e w' => e = .returned (.tuple #[.int .i64 (v : Int), .int .i64 0]) ∧ Below w.heap.size w w' := by
  have h := parse_any (ba t) (by rw [ba_size]; omega) (n : Int) w hE
  rw [lst_ba, hp] at h
  exact h

set_option maxHeartbeats 8000000 in
set_option maxRecDepth 100000 in
theorem returns_any (S N : Int) (w : World) (hE : Env w) : Calls Tryd.prog 5 #[.int .i64 S, .int .i64 N] w fun e w' => e = .returned (.bool true) ∧ Below w.heap.size w w' := by
  have cM := mod_any N 20 (by omega)
  obtain ⟨m, hm, hm19⟩ := mod_weeks N
  rw [hm] at cM
  obtain ⟨n, hn⟩ : ∃ n, m + 1 = n := ⟨_, rfl⟩
  have hn1 : 1 ≤ n := by omega
  have hn2 : n ≤ 20 := by omega
  have hni : 1 + (m : Int) = (n : Int) := by omega
  have hp := powI n hn2
  have cS := mod_any S ((2 : Int) ^ n - 1) (by omega)
  obtain ⟨q, hq, hql⟩ := mod_set S n hn1 hn2
  rw [hq] at cS
  obtain ⟨s, hs⟩ : ∃ s, 1 + q = s := ⟨_, rfl⟩
  rw [hs] at hql
  have hs1 : 1 ≤ s := by omega
  have hsi : 1 + (q : Int) = (s : Int) := by omega
  have hss : s < 1048576 := Nat.lt_of_lt_of_le hql (pow_le hn2)
  have cF := hid (fun w h => form_call hs1 hql hn1 hn2 w h)
  have cP := hid (fun w h => parse_call (parse_form hs1 hql hn1 hn2) (by have := form_len (s := s) (n := n); omega) w h)
  have cW := weeks_any (s : Int)
  rw [weeksM_of hs1 hql hn2] at cW
  have CW := hid cW
  have HE := hid hE
  have h6 := hE.size
  have CM := hid cM
  have CS := hid cS
  have hbk := bkW_weeks s 20
  rw [Nat.mod_eq_of_lt (by omega)] at hbk
  have HBK := hid hbk
  have hwl := weeksP_len s 20
  have hwm : ∀ x ∈ weeksP s 20, 1 ≤ x ∧ x ≤ 20 := fun x hx => by have := (mem_weeksP s 20 x).1 hx; omega
  obtain ⟨W, hW⟩ : ∃ W, weeksP s 20 = W := ⟨_, rfl⟩
  rw [hW] at CW HBK hwl hwm
  have HWM := hid hwm
  obtain ⟨F, hF⟩ : ∃ F, ba (formN s n) = F := ⟨_, rfl⟩
  rw [hF] at cF cP
  clear hE cM cS cW hm hq hn hs hbk hW hwm hF
  go_enter Tryd.func5, Tryd.ntmps5
  go_wp2_with fail
  refine (CM.out _).mono ?_
  rintro e w' ⟨rfl, rfl⟩
  go_wp2_with fail
  refine (CS.out _).mono ?_
  rintro e w' ⟨rfl, rfl⟩
  go_wp2_with fail
  refine (cF.out _ HE.out.names).mono ?_
  rintro e w1 ⟨rfl, hb1⟩
  have HB1 := hid hb1
  clear hb1
  go_wp2_with fail
  refine (cP.out _ (HE.out.below HB1.out h6)).mono ?_
  rintro e w2 ⟨rfl, hb2⟩
  have HB2 := hid (HB1.out.trans (hb2.mono HB1.out.size))
  clear hb2
  go_wp2_with fail
  refine (CW.out _).mono ?_
  rintro e w3 ⟨⟨v, rfl, hrow⟩, hb3⟩
  have HB3 := hid (HB2.out.trans (hb3.mono HB2.out.size))
  obtain ⟨A, c, rfl, hc1, hc2, hin⟩ := hrow.intsIn
  rw [castL_len]
  have HIN := hid hin
  clear hb3 hrow hin hc1 hc2
  go_wp2
  go_loopw [9, 11] (fun bv iv wr => ∃ (i bk : Nat), iv = .int .i64 (i : Int) ∧ bv = .int .i64 (bk : Int) ∧ i ≤ W.length ∧ bk < 1048576 ∧ Hid (bkW (W.take i) 0 = bk) ∧ Hid (wr = w3)) (fun _ iv _ => W.length - (RowKit.intOf iv).toNat)
  case atStart => exact ⟨0, 0, rfl, rfl, by omega, by omega, hid rfl, by trivial⟩
  case round =>
    obtain ⟨i, bk, rfl, rfl, hi, hbl, hbk, hw⟩ := hrel
    obtain rfl : w3 = wr := hw.out.symm
    by_cases hlt : i < W.length
    · have hltz : (i : Int) < (W.length : Int) := by omega
      obtain ⟨x, hx⟩ : ∃ x, W[i]? = some x := ⟨W[i], List.getElem?_eq_getElem hlt⟩
      obtain ⟨hx1, hx2⟩ := HWM.out x (List.mem_of_getElem? hx)
      obtain ⟨b, off, rfl, hcell⟩ := HIN.out.cell (by intro e; rw [e] at hlt; simp at hlt)
      have cx := hcell i x hx
      obtain ⟨y, rfl⟩ : ∃ y, x = y + 1 := ⟨x - 1, by omega⟩
      rw [show ((y + 1 : Nat) : Int) = (y : Int) + 1 by omega] at cx
      have e1 : IntKind.i64.wrap ((y : Int) + 1 - 1) = (y : Int) := by rw [Int.add_sub_cancel]; exact IntWalk.i64_in _ (by omega)
      have hpy := powI y (by omega)
      have epy : (2 : Int) ^ y = ((2 ^ y : Nat) : Int) := by rw [Int.natCast_pow]; rfl
      have hor : bits .or .i64 (bk : Int) ((2 : Int) ^ y) = ((bk ||| 2 ^ y : Nat) : Int) := by
        rw [epy]
        exact bw_or _ _ (by omega) (by omega)
      have hol : bk ||| 2 ^ y < 2 ^ 20 := Nat.or_lt_two_pow (by omega) (Nat.pow_lt_pow_right (by omega) (by omega))
      have hnx : Hid (bkW (W.take (i + 1)) 0 = bk ||| 2 ^ y) := hid (by
        rw [List.take_add_one, hx]
        show bkW (W.take i ++ [y + 1]) 0 = _
        rw [bkW_snoc, hbk.out, Nat.add_sub_cancel])
      obtain ⟨O, hO⟩ : ∃ O, bk ||| 2 ^ y = O := ⟨_, rfl⟩
      rw [hO] at hor hol hnx
      clear hx hcell epy hO
      go_wp2
      go_roundw
      case rel => exact ⟨i + 1, O, by go_num, rfl, by omega, by omega, hnx, by trivial⟩
      case measure => simp [RowKit.intOf]; omega
    · have hltz : ¬ (i : Int) < (W.length : Int) := by omega
      have hf : bk = s := by
        have h := hbk.out
        rw [List.take_of_length_le (by omega), HBK.out] at h
        exact h.symm
      subst hf
      have hbb : ((bk : Int) == (bk : Int)) = true := by simp
      clear hbk
      go_wp2_with fail
      refine (awake_any _ (HE.out.below HB3.out h6)).mono ?_
      rintro e w5 ⟨rfl, hb5⟩
      have HB5 := hid (HB3.out.trans (hb5.mono HB3.out.size))
      clear hb5
      go_wp2
      go_ret
      exact ⟨rfl, HB5.out⟩
end Go.Proofs.YtmmphjpakoimcaaDoor
