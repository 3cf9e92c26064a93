/-
  Weeks: the program's and the specification's. Conditions: none.
-/
import Derived.Test.YtmmphjpakoimcaaDoorA2
set_option linter.unusedVariables false
namespace Go.Proofs.YtmmphjpakoimcaaDoor
open Go Go.Proofs Go.RowKit Go.Lib

theorem bw_ofInt (a : Nat) (ha : a < 9223372036854775808) : (BitVec.ofInt 64 (a : Int)).toNat = a := by
  rw [BitVec.ofInt_natCast, BitVec.toNat_ofNat]; exact Nat.mod_eq_of_lt (by omega)
theorem bw_and (a b : Nat) (ha : a < 9223372036854775808) (hb : b < 9223372036854775808) : bits .and .i64 (a : Int) (b : Int) = ((a &&& b : Nat) : Int) := by
  have hx : a &&& b < 2 ^ 63 := Nat.and_lt_two_pow _ (by omega)
  show IntKind.i64.wrap ((BitVec.ofInt 64 (a : Int) &&& BitVec.ofInt 64 (b : Int)).toNat : Int) = _
  rw [BitVec.toNat_and, bw_ofInt a ha, bw_ofInt b hb, IntKind.wrap_i64]
  omega
theorem bw_or (a b : Nat) (ha : a < 9223372036854775808) (hb : b < 9223372036854775808) : bits .or .i64 (a : Int) (b : Int) = ((a ||| b : Nat) : Int) := by
  have hx : a ||| b < 2 ^ 63 := Nat.or_lt_two_pow (by omega) (by omega)
  show IntKind.i64.wrap ((BitVec.ofInt 64 (a : Int) ||| BitVec.ofInt 64 (b : Int)).toNat : Int) = _
  rw [BitVec.toNat_or, bw_ofInt a ha, bw_ofInt b hb, IntKind.wrap_i64]
  omega
theorem bit1 (x : Nat) (h1 : x < 9223372036854775808) : bits .and .i64 (x : Int) 1 = ((x % 2 : Nat) : Int) := by
  have := bw_and x 1 (by omega) (by omega)
  rw [nat_mask1] at this
  simpa using this
theorem shrI (s k : Nat) : ((s : Int) / 2 ^ k) = ((s / 2 ^ k : Nat) : Int) := by
  rw [Int.natCast_ediv, Int.natCast_pow]
  rfl
theorem bit_yes {s k : Nat} (hs : s < 9223372036854775808) (h : bitB s k = true) : bits .and .i64 ((s : Int) / 2 ^ k) 1 = 1 := by
  have h1 := Nat.div_le_self s (2 ^ k)
  rw [shrI, bit1 _ (by omega), of_decide_eq_true h]
  rfl
theorem bit_no {s k : Nat} (hs : s < 9223372036854775808) (h : bitB s k = false) : bits .and .i64 ((s : Int) / 2 ^ k) 1 = 0 := by
  have h1 := Nat.div_le_self s (2 ^ k)
  have h2 := of_decide_eq_false h
  rw [shrI, bit1 _ (by omega), show s / 2 ^ k % 2 = 0 by omega]
  rfl
/-- What hands back a slice of ints of its own. -/
def IntsOut (l : List Int) (w : World) (e : Ending) (w' : World) : Prop := (∃ v, e = .returned v ∧ IntRow w' w.heap.size v l) ∧ Below w.heap.size w w'
theorem weeksM_no {S : Int} (h : validM S 20 = false) : weeksM S = [] := by
  unfold weeksM setOk
  rw [if_neg]
  have h2 : validM S ((20 : Nat) : Int) = false := h
  intro k
  have k := of_decide_eq_true k
  rw [validM_yes (by omega) (by omega) k.1 (by have := k.2; rw [show (2 : Int) ^ 20 = 1048576 by decide]; exact this)] at h2
  simp at h2
theorem weeksM_yes {S : Int} (h : validM S 20 = true) : ∃ s : Nat, S = (s : Int) ∧ 1 ≤ s ∧ s < 1048576 ∧ weeksM S = castL (weeksP s 20) := by
  have h2 := of_decide_eq_true h
  rw [show ((20 : Int).toNat) = 20 from rfl, show (2 : Int) ^ 20 = 1048576 by decide] at h2
  refine ⟨S.toNat, by omega, by omega, by omega, ?_⟩
  unfold weeksM setOk
  rw [if_pos (decide_eq_true ⟨h2.2.1, h2.2.2⟩)]

set_option maxHeartbeats 4000000 in
set_option maxRecDepth 100000 in
theorem weeks_any (S : Int) (w : World) : Calls Tryd.prog 16 #[.int .i64 S] w (IntsOut (weeksM S) w) := by
  have cV := valid_any S 20
  obtain ⟨i3, hi3, hz3, hs3, hb3⟩ := info_parts infoInt
  cases hv : validM S 20 with
  | false =>
    rw [weeksM_no hv]
    rw [hv] at cV
    clear hv
    go_enter Tryd.func16, Tryd.ntmps16
    go_wp2_with fail
    refine (cV _).mono ?_
    rintro e w' ⟨rfl, q, rfl⟩
    go_wp2
    go_ret
    exact ⟨⟨_, rfl, IntRow.nil _ _⟩, below_drewN (Below.refl _ _) q⟩
  | true =>
    obtain ⟨s, rfl, hs1, hs2, hM⟩ := weeksM_yes hv
    rw [hv] at cV
    rw [hM]
    clear hM hv
    go_enter Tryd.func16, Tryd.ntmps16
    go_wp2_with fail
    refine (cV _).mono ?_
    rintro e w1 ⟨rfl, q, hw1⟩
    have HB : Hid (Below w.heap.size w w1) := hid (by rw [hw1]; exact below_drewN (Below.refl _ _) q)
    clear hw1
    go_wp2
    go_loopw [3, 8] (fun v iv wr => ∃ k : Nat, iv = .int .i64 (k : Int) ∧ k ≤ 20 ∧ IntRow wr w.heap.size v (castL (weeksP s k)) ∧ Hid (Below w.heap.size w wr)) (fun _ iv _ => 20 - (RowKit.intOf iv).toNat)
    case atStart => exact ⟨0, rfl, by omega, IntRow.nil _ _, HB⟩
    case round =>
      obtain ⟨k, rfl, hk, hrow, hB⟩ := hrel
      have HRow := hid hrow
      clear hrow
      by_cases hlt : k < 20
      · have hltz : (k : Int) < 20 := by omega
        cases hbit : bitB s k with
        | false =>
          have hb0 := bit_no (by omega) hbit
          have hnx := hid (weeksP_no hbit)
          clear hbit
          go_wp2
          go_roundw
          case rel => exact ⟨k + 1, by go_num, by omega, by rw [hnx.out]; exact HRow.out, hB⟩
          case measure => simp [RowKit.intOf]; omega
        | true =>
          have hb1 := bit_yes (by omega) hbit
          have hnx := hid (weeksP_yes hbit)
          have hlen := weeksP_len s k
          have hcl := castL_len (weeksP s k)
          have HC3 : Hid ((castL (weeksP s k)).length + 1 ≤ maxLen) := by unfold maxLen; exact hid (by omega)
          have HC4 : Hid (((castL (weeksP s k)).length + 1) * 8 ≤ 140737488355328) := hid (by omega)
          have HC5 : Hid (∀ o : Obj, w.heap.size ≤ (wr.alloc o).heap.size) := hid (fun o => by have := hB.out.size; simp; omega)
          clear hbit hlen hcl
          go_wp2_with (at_builtin; refine wpList_append_own _ rfl _ _ 30 rfl w.heap.size 3 i3 (.int .i64 0) 1 8 Tryd.underlying30 hi3 hz3 hs3 hb3 rfl (by decide) _ (castL (weeksP s k)).length (intVals (castL (weeksP s k))) rfl (World.ownsRow.alloc HRow.out _) ⟨wr.heap.size, 0, none⟩ 1 1 [.int .i64 ((k : Int) + 1)] rfl rfl (one_new _ _ _) (one_one _ _) HC3.out HC4.out (HC5.out _) ?_)
          intro v' w6 hown' hgrow _
          have hg' := grownBy_of_alloc hgrow
          have hb56 : Below w.heap.size wr w6 := (Below.refl _ wr).grown hg' hB.out.size (fun k hk => (World.ownsRow.lt HRow.out k hk).1)
          have HB6 := hid (hB.out.trans hb56)
          have HRow6 := hid hown'
          clear hown' hgrow hg' hb56
          go_wp2
          go_roundw
          case rel =>
            refine ⟨k + 1, by go_num, by omega, ?_, HB6⟩
            rw [hnx.out, castL_app]
            unfold IntRow
            rw [intVals_app, List.length_append]
            exact HRow6.out
          case measure => simp [RowKit.intOf]; omega
      · have hltz : ¬ (k : Int) < 20 := by omega
        obtain rfl : k = 20 := by omega
        go_wp2
        go_ret
        exact ⟨⟨_, rfl, HRow.out⟩, hB.out⟩

set_option maxHeartbeats 4000000 in
set_option maxRecDepth 100000 in
theorem rweeks_any (S : Int) (w : World) : Calls Tryd.prog 17 #[.int .i64 S] w (IntsOut (weeksM S) w) := by
  have cV := rvalid_any S 20
  obtain ⟨i3, hi3, hz3, hs3, hb3⟩ := info_parts infoInt
  cases hv : validM S 20 with
  | false =>
    rw [weeksM_no hv]
    rw [hv] at cV
    clear hv
    go_enter Tryd.func17, Tryd.ntmps17
    go_wp2_with fail
    refine (cV _).mono ?_
    rintro e w' ⟨rfl, q, rfl⟩
    go_wp2
    go_ret
    exact ⟨⟨_, rfl, IntRow.nil _ _⟩, below_drewN (Below.refl _ _) q⟩
  | true =>
    obtain ⟨s, rfl, hs1, hs2, hM⟩ := weeksM_yes hv
    rw [hv] at cV
    rw [hM]
    clear hM hv
    go_enter Tryd.func17, Tryd.ntmps17
    go_wp2_with fail
    refine (cV _).mono ?_
    rintro e w1 ⟨rfl, q, hw1⟩
    have HB : Hid (Below w.heap.size w w1) := hid (by rw [hw1]; exact below_drewN (Below.refl _ _) q)
    clear hw1
    go_wp2
    go_loopw [3, 4] (fun v iv wr => ∃ k : Nat, iv = .int .i64 ((k : Int) + 1) ∧ k ≤ 20 ∧ IntRow wr w.heap.size v (castL (weeksP s k)) ∧ Hid (Below w.heap.size w wr)) (fun _ iv _ => 21 - (RowKit.intOf iv).toNat)
    case atStart => exact ⟨0, rfl, by omega, IntRow.nil _ _, HB⟩
    case round =>
      obtain ⟨k, rfl, hk, hrow, hB⟩ := hrel
      have HRow := hid hrow
      clear hrow
      by_cases hlt : k < 20
      · have hltz : (k : Int) + 1 ≤ 20 := by omega
        cases hbit : bitB s k with
        | false =>
          have hb0 := bit_no (by omega) hbit
          have hnx := hid (weeksP_no hbit)
          clear hbit
          go_wp2
          go_roundw
          case rel => exact ⟨k + 1, by simp, by omega, by rw [hnx.out]; exact HRow.out, hB⟩
          case measure => simp [RowKit.intOf]; omega
        | true =>
          have hb1 := bit_yes (by omega) hbit
          have hnx := hid (weeksP_yes hbit)
          have hlen := weeksP_len s k
          have hcl := castL_len (weeksP s k)
          have HC3 : Hid ((castL (weeksP s k)).length + 1 ≤ maxLen) := by unfold maxLen; exact hid (by omega)
          have HC4 : Hid (((castL (weeksP s k)).length + 1) * 8 ≤ 140737488355328) := hid (by omega)
          have HC5 : Hid (∀ o : Obj, w.heap.size ≤ (wr.alloc o).heap.size) := hid (fun o => by have := hB.out.size; simp; omega)
          clear hbit hlen hcl
          go_wp2_with (at_builtin; refine wpList_append_own _ rfl _ _ 30 rfl w.heap.size 3 i3 (.int .i64 0) 1 8 Tryd.underlying30 hi3 hz3 hs3 hb3 rfl (by decide) _ (castL (weeksP s k)).length (intVals (castL (weeksP s k))) rfl (World.ownsRow.alloc HRow.out _) ⟨wr.heap.size, 0, none⟩ 1 1 [.int .i64 ((k : Int) + 1)] rfl rfl (one_new _ _ _) (one_one _ _) HC3.out HC4.out (HC5.out _) ?_)
          intro v' w6 hown' hgrow _
          have hg' := grownBy_of_alloc hgrow
          have hb56 : Below w.heap.size wr w6 := (Below.refl _ wr).grown hg' hB.out.size (fun k hk => (World.ownsRow.lt HRow.out k hk).1)
          have HB6 := hid (hB.out.trans hb56)
          have HRow6 := hid hown'
          clear hown' hgrow hg' hb56
          go_wp2
          go_roundw
          case rel =>
            refine ⟨k + 1, by simp, by omega, ?_, HB6⟩
            rw [hnx.out, castL_app]
            unfold IntRow
            rw [intVals_app, List.length_append]
            exact HRow6.out
          case measure => simp [RowKit.intOf]; omega
      · have hltz : ¬ (k : Int) + 1 ≤ 20 := by omega
        obtain rfl : k = 20 := by omega
        go_wp2
        go_ret
        exact ⟨⟨_, rfl, HRow.out⟩, hB.out⟩
end Go.Proofs.YtmmphjpakoimcaaDoor
