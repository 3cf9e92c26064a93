/-
  Valid: the program's and the specification's. Conditions: none.
  Weeks: the program's and the specification's. Conditions: none.
  The set of a name: the program's (named).in and the specification's named. Conditions: the number of weeks is from 1 to 20; the name is one of the five.
  The names of sets: the program's setOf and nameOf. Conditions: the table of names holds what its text lays; the number of weeks is from 1 to 20.
-/
import Derived.Test.YtigdcgklpapfbaaGreatDoorVR01
import Derived.Deep.MidRow
set_option linter.unusedVariables false
namespace Go.Proofs.YtigdcgklpapfbaaGreatDoor
open Go Go.Proofs Go.RowKit Go.Lib

theorem span1_any (n : Nat) (hn : n ≤ 20) (w : World) : Calls Tryz.prog 150 #[.int .i64 1, .int .i64 (n : Int)] w fun e w' => e = .returned (.int .i64 ((2 : Int) ^ n - 1)) ∧ ∃ q, w' = w.drewN q := by
  have h := span_any 0 n hn (Nat.zero_le _) w
  rw [← spanI 0 n (Nat.zero_le _)] at h
  exact h
theorem natN {N : Int} (h : 0 ≤ N) : ∃ n : Nat, N = (n : Int) := Int.eq_ofNat_of_zero_le h
theorem validM_no {S N : Int} (h : ¬ (1 ≤ N ∧ N ≤ 20)) : validM S N = false := decide_eq_false (fun k => h k.1)
theorem validM_low {S N : Int} (h : S < 1) : validM S N = false := decide_eq_false (fun k => by omega)
theorem validM_high {S : Int} {n : Nat} (h : 2 ^ n ≤ S) : validM S n = false := decide_eq_false (fun k => by
  have : (n : Int).toNat = n := Int.toNat_natCast n
  rw [this] at k
  omega)
theorem validM_yes {S : Int} {n : Nat} (h1 : 1 ≤ n) (h2 : n ≤ 20) (hs : 1 ≤ S) (h : S < 2 ^ n) : validM S n = true := decide_eq_true ⟨⟨by omega, by omega⟩, hs, by rw [Int.toNat_natCast]; exact h⟩

set_option maxHeartbeats 2000000 in
theorem valid_any (S N : Int) (w : World) : Calls Tryz.prog 111 #[.int .i64 S, .int .i64 N] w fun e w' => e = .returned (.bool (validM S N)) ∧ ∃ q, w' = w.drewN q := by
  have cL := isLength_any N
  by_cases hN : 1 ≤ N ∧ N ≤ 20
  · obtain ⟨n, rfl⟩ := natN (show 0 ≤ N by omega)
    rw [show lenB (n : Int) = true from decide_eq_true hN] at cL
    have cS := span1_any n (by omega)
    have hp := powI n (by omega)
    by_cases h1 : 1 ≤ S
    · by_cases h2 : S < 2 ^ n
      · rw [validM_yes (by omega) (by omega) h1 h2]
        have h3 : S ≤ 2 ^ n - 1 := by omega
        clear hN
        go_enter Tryz.func111, Tryz.ntmps111
        go_wp2_with (fail)
        first
          | (refine (cL _).mono ?_; rintro e w' ⟨rfl, rfl⟩)
          | skip
        go_wp2_with (fail)
        refine (cS _).mono ?_
        rintro e w' ⟨rfl, q, rfl⟩
        go_wp2
        go_ret
        exact ⟨rfl, q, rfl⟩
      · rw [validM_high (by omega)]
        have h3 : ¬ S ≤ 2 ^ n - 1 := by omega
        clear hN
        go_enter Tryz.func111, Tryz.ntmps111
        go_wp2_with (fail)
        refine (cL _).mono ?_
        rintro e w' ⟨rfl, rfl⟩
        go_wp2_with (fail)
        refine (cS _).mono ?_
        rintro e w' ⟨rfl, q, rfl⟩
        go_wp2
        go_ret
        exact ⟨by simp [h3], q, rfl⟩
    · rw [validM_low (by omega)]
      clear hN
      go_enter Tryz.func111, Tryz.ntmps111
      go_wp2_with (fail)
      refine (cL _).mono ?_
      rintro e w' ⟨rfl, rfl⟩
      go_wp2
      go_ret
      exact ⟨rfl, 0, rfl⟩
  · rw [show lenB N = false from decide_eq_false hN] at cL
    rw [validM_no hN]
    clear hN
    go_enter Tryz.func111, Tryz.ntmps111
    go_wp2_with (fail)
    refine (cL _).mono ?_
    rintro e w' ⟨rfl, rfl⟩
    go_wp2
    go_ret
    exact ⟨rfl, 0, rfl⟩
set_option maxHeartbeats 2000000 in
theorem rvalid_any (S N : Int) (w : World) : Calls Tryz.prog 65 #[.int .i64 S, .int .i64 N] w fun e w' => e = .returned (.bool (validM S N)) ∧ ∃ q, w' = w.drewN q := by
  by_cases h0 : 1 ≤ N
  · by_cases h20 : N ≤ 20
    · obtain ⟨n, rfl⟩ := natN (show 0 ≤ N by omega)
      have hp := powI n (by omega)
      by_cases h1 : 1 ≤ S
      · by_cases h2 : S < 2 ^ n
        · rw [validM_yes (by omega) (by omega) h1 h2]
          go_enter Tryz.func65, Tryz.ntmps65
          go_wp2
          go_ret
          exact ⟨rfl, 0, rfl⟩
        · rw [validM_high (by omega)]
          go_enter Tryz.func65, Tryz.ntmps65
          go_wp2
          go_ret
          exact ⟨by simp, 0, rfl⟩
      · rw [validM_low (by omega)]
        go_enter Tryz.func65, Tryz.ntmps65
        go_wp2
        go_ret
        exact ⟨rfl, 0, rfl⟩
    · rw [validM_no (by omega)]
      go_enter Tryz.func65, Tryz.ntmps65
      go_wp2
      go_ret
      exact ⟨rfl, 0, rfl⟩
  · rw [validM_no (by omega)]
    go_enter Tryz.func65, Tryz.ntmps65
    go_wp2
    go_ret
    exact ⟨rfl, 0, rfl⟩
end Go.Proofs.YtigdcgklpapfbaaGreatDoor

set_option linter.unusedVariables false
namespace Go.Proofs.YtigdcgklpapfbaaGreatDoor
open Go Go.Proofs Go.RowKit Go.Lib

theorem bw_ofInt (a : Nat) (ha : a < 9223372036854775808) : (BitVec.ofInt 64 (a : Int)).toNat = a := by
  rw [BitVec.ofInt_natCast, BitVec.toNat_ofNat]; exact Nat.mod_eq_of_lt (by omega)
theorem bw_and (a b : Nat) (ha : a < 9223372036854775808) (hb : b < 9223372036854775808) : bits .and .i64 (a : Int) (b : Int) = ((a &&& b : Nat) : Int) := by
  have hx : a &&& b < 2 ^ 63 := Nat.and_lt_two_pow _ (by omega)
  show IntKind.i64.wrap ((BitVec.ofInt 64 (a : Int) &&& BitVec.ofInt 64 (b : Int)).toNat : Int) = _
  rw [BitVec.toNat_and, bw_ofInt a ha, bw_ofInt b hb, IntKind.wrap_i64]
  omega
theorem bw_or (a b : Nat) (ha : a < 9223372036854775808) (hb : b < 9223372036854775808) : bits .or .i64 (a : Int) (b : Int) = ((a ||| b : Nat) : Int) := by
  have hx : a ||| b < 2 ^ 63 := Nat.or_lt_two_pow (by omega) (by omega)
  show IntKind.i64.wrap ((BitVec.ofInt 64 (a : Int) ||| BitVec.ofInt 64 (b : Int)).toNat : Int) = _
  rw [BitVec.toNat_or, bw_ofInt a ha, bw_ofInt b hb, IntKind.wrap_i64]
  omega
theorem bit1 (x : Nat) (h1 : x < 9223372036854775808) : bits .and .i64 (x : Int) 1 = ((x % 2 : Nat) : Int) := by
  have := bw_and x 1 (by omega) (by omega)
  rw [nat_mask1] at this
  simpa using this
theorem shrI (s k : Nat) : ((s : Int) / 2 ^ k) = ((s / 2 ^ k : Nat) : Int) := by
  rw [Int.natCast_ediv, Int.natCast_pow]
  rfl
theorem bit_yes {s k : Nat} (hs : s < 9223372036854775808) (h : bitB s k = true) : bits .and .i64 ((s : Int) / 2 ^ k) 1 = 1 := by
  have h1 := Nat.div_le_self s (2 ^ k)
  rw [shrI, bit1 _ (by omega), of_decide_eq_true h]
  rfl
theorem bit_no {s k : Nat} (hs : s < 9223372036854775808) (h : bitB s k = false) : bits .and .i64 ((s : Int) / 2 ^ k) 1 = 0 := by
  have h1 := Nat.div_le_self s (2 ^ k)
  have h2 := of_decide_eq_false h
  rw [shrI, bit1 _ (by omega), show s / 2 ^ k % 2 = 0 by omega]
  rfl
/-- What hands back a slice of ints of its own. -/
def IntsOut (l : List Int) (w : World) (e : Ending) (w' : World) : Prop := (∃ v, e = .returned v ∧ IntRow w' w.heap.size v l) ∧ Below w.heap.size w w'
theorem weeksM_no {S : Int} (h : validM S 20 = false) : weeksM S = [] := by
  unfold weeksM setOk
  rw [if_neg]
  have h2 : validM S ((20 : Nat) : Int) = false := h
  intro k
  have k := of_decide_eq_true k
  rw [validM_yes (by omega) (by omega) k.1 (by have := k.2; rw [show (2 : Int) ^ 20 = 1048576 by decide]; exact this)] at h2
  simp at h2
theorem weeksM_yes {S : Int} (h : validM S 20 = true) : ∃ s : Nat, S = (s : Int) ∧ 1 ≤ s ∧ s < 1048576 ∧ weeksM S = castL (weeksP s 20) := by
  have h2 := of_decide_eq_true h
  rw [show ((20 : Int).toNat) = 20 from rfl, show (2 : Int) ^ 20 = 1048576 by decide] at h2
  refine ⟨S.toNat, by omega, by omega, by omega, ?_⟩
  unfold weeksM setOk
  rw [if_pos (decide_eq_true ⟨h2.2.1, h2.2.2⟩)]

set_option maxHeartbeats 4000000 in
set_option maxRecDepth 100000 in
theorem weeks_any (S : Int) (w : World) : Calls Tryz.prog 139 #[.int .i64 S] w (IntsOut (weeksM S) w) := by
  have cV := valid_any S 20
  obtain ⟨i3, hi3, hz3, hs3, hb3⟩ := info_parts infoInt
  cases hv : validM S 20 with
  | false =>
    rw [weeksM_no hv]
    rw [hv] at cV
    clear hv
    go_enter Tryz.func139, Tryz.ntmps139
    go_wp2_with fail
    refine (cV _).mono ?_
    rintro e w' ⟨rfl, q, rfl⟩
    go_wp2
    go_ret
    exact ⟨⟨_, rfl, IntRow.nil _ _⟩, below_drewN (Below.refl _ _) q⟩
  | true =>
    obtain ⟨s, rfl, hs1, hs2, hM⟩ := weeksM_yes hv
    rw [hv] at cV
    rw [hM]
    clear hM hv
    go_enter Tryz.func139, Tryz.ntmps139
    go_wp2_with fail
    refine (cV _).mono ?_
    rintro e w1 ⟨rfl, q, hw1⟩
    have HB : Hid (Below w.heap.size w w1) := hid (by rw [hw1]; exact below_drewN (Below.refl _ _) q)
    clear hw1
    go_wp2
    go_loopw [3, 8] (fun v iv wr => ∃ k : Nat, iv = .int .i64 (k : Int) ∧ k ≤ 20 ∧ IntRow wr w.heap.size v (castL (weeksP s k)) ∧ Hid (Below w.heap.size w wr)) (fun _ iv _ => 20 - (RowKit.intOf iv).toNat)
    case atStart => exact ⟨0, rfl, by omega, IntRow.nil _ _, HB⟩
    case round =>
      obtain ⟨k, rfl, hk, hrow, hB⟩ := hrel
      have HRow := hid hrow
      clear hrow
      by_cases hlt : k < 20
      · have hltz : (k : Int) < 20 := by omega
        cases hbit : bitB s k with
        | false =>
          have hb0 := bit_no (by omega) hbit
          have hnx := hid (weeksP_no hbit)
          clear hbit
          go_wp2
          go_roundw
          case rel => exact ⟨k + 1, by go_num, by omega, by rw [hnx.out]; exact HRow.out, hB⟩
          case measure => simp [RowKit.intOf]; omega
        | true =>
          have hb1 := bit_yes (by omega) hbit
          have hnx := hid (weeksP_yes hbit)
          have hlen := weeksP_len s k
          have hcl := castL_len (weeksP s k)
          have HC3 : Hid ((castL (weeksP s k)).length + 1 ≤ maxLen) := by unfold maxLen; exact hid (by omega)
          have HC4 : Hid (((castL (weeksP s k)).length + 1) * 8 ≤ 140737488355328) := hid (by omega)
          have HC5 : Hid (∀ o : Obj, w.heap.size ≤ (wr.alloc o).heap.size) := hid (fun o => by have := hB.out.size; simp; omega)
          clear hbit hlen hcl
          go_wp2_with (at_builtin; refine wpList_append_own _ rfl _ _ 29 rfl w.heap.size 3 i3 (.int .i64 0) 1 8 Tryz.underlying29 hi3 hz3 hs3 hb3 rfl (by decide) _ (castL (weeksP s k)).length (intVals (castL (weeksP s k))) rfl (World.ownsRow.alloc HRow.out _) ⟨wr.heap.size, 0, none⟩ 1 1 [.int .i64 ((k : Int) + 1)] rfl rfl (one_new _ _ _) (one_one _ _) HC3.out HC4.out (HC5.out _) ?_)
          intro v' w6 hown' hgrow _
          have hg' := grownBy_of_alloc hgrow
          have hb56 : Below w.heap.size wr w6 := (Below.refl _ wr).grown hg' hB.out.size (fun k hk => (World.ownsRow.lt HRow.out k hk).1)
          have HB6 := hid (hB.out.trans hb56)
          have HRow6 := hid hown'
          clear hown' hgrow hg' hb56
          go_wp2
          go_roundw
          case rel =>
            refine ⟨k + 1, by go_num, by omega, ?_, HB6⟩
            rw [hnx.out, castL_app]
            unfold IntRow
            rw [intVals_app, List.length_append]
            exact HRow6.out
          case measure => simp [RowKit.intOf]; omega
      · have hltz : ¬ (k : Int) < 20 := by omega
        obtain rfl : k = 20 := by omega
        go_wp2
        go_ret
        exact ⟨⟨_, rfl, HRow.out⟩, hB.out⟩

end Go.Proofs.YtigdcgklpapfbaaGreatDoor

set_option linter.unusedVariables false
namespace Go.Proofs.YtigdcgklpapfbaaGreatDoor
open Go Go.Proofs Go.RowKit Go.Lib

/-- The entries of the table of names. -/
def nv : Nat → Array Value
  | 0 => #[.string ⟨#[97, 108, 108]⟩, .int .i64 1048575, .bool true, .bool true]
  | 1 => #[.string ⟨#[111, 100, 100]⟩, .int .i64 349525, .bool true, .bool true]
  | 2 => #[.string ⟨#[101, 118, 101, 110]⟩, .int .i64 699050, .bool true, .bool true]
  | 3 => #[.string ⟨#[102, 105, 114, 115, 116]⟩, .int .i64 1048575, .bool true, .bool false]
  | _ => #[.string ⟨#[115, 101, 99, 111, 110, 100]⟩, .int .i64 1048575, .bool false, .bool true]
theorem in_table : ∀ n : Fin 21, 1 ≤ n.val → (spanN 1 n.val &&& 1048575 = nmM 0 n.val) ∧ (spanN 1 n.val &&& 349525 = nmM 1 n.val) ∧ (spanN 1 n.val &&& 699050 = nmM 2 n.val) ∧ (spanN 1 ((n.val + 1) / 2) &&& 1048575 = nmM 3 n.val) ∧ (spanN ((n.val + 1) / 2 + 1) n.val &&& 1048575 = nmM 4 n.val) := by decide +kernel
theorem in_and (x m v : Nat) (hx : x < 1048576) (hm : m < 1048576) (h : x &&& m = v) : bits .and .i64 (x : Int) (m : Int) = (v : Int) := by rw [bw_and x m (by omega) (by omega), h]
theorem spanN_small (a b : Nat) (h : b ≤ 20) : spanN a b < 1048576 := Nat.lt_of_lt_of_le (spanN_lt a b) (pow_le h)

set_option maxHeartbeats 4000000 in
set_option maxRecDepth 100000 in
theorem in_any (k n : Nat) (hk : k < 5) (h1 : 1 ≤ n) (h2 : n ≤ 20) (w : World) : Calls Tryz.prog 175 #[.agg (nv k), .int .i64 (n : Int)] w fun e w' => e = .returned (.int .i64 (nmM k n : Nat)) ∧ Below w.heap.size w w' := by
  obtain ⟨t0, t1, t2, t3, t4⟩ := in_table ⟨n, by omega⟩ h1
  simp only at t0 t1 t2 t3 t4
  obtain ⟨h, hh⟩ : ∃ h, (n + 1) / 2 = h := ⟨_, rfl⟩
  rw [hh] at t3 t4
  have hI : ((n : Int) + 1) / 2 = (h : Int) := by omega
  have hT : Int.tdiv ((n : Int) + 1) 2 = (h : Int) := by rw [Int.tdiv_eq_ediv_of_nonneg (by omega)]; exact hI
  have hle : h ≤ n := by omega
  have q0 := in_and _ 1048575 _ (spanN_small 1 n h2) (by omega) t0
  have q1 := in_and _ 349525 _ (spanN_small 1 n h2) (by omega) t1
  have q2 := in_and _ 699050 _ (spanN_small 1 n h2) (by omega) t2
  have q3 := in_and _ 1048575 _ (spanN_small 1 h (by omega)) (by omega) t3
  have q4 := in_and _ 1048575 _ (spanN_small (h + 1) n h2) (by omega) t4
  have cA := fun w => span_any 0 n h2 (Nat.zero_le _) w
  have cB := fun w => span_any 0 h (by omega) (Nat.zero_le _) w
  have cC := fun w => span_any h n h2 hle w
  simp only [Nat.zero_add, Int.natCast_zero, Int.zero_add] at cA cB
  obtain ⟨A, hA⟩ : ∃ A, spanN 1 n = A := ⟨_, rfl⟩
  obtain ⟨B, hB⟩ : ∃ B, spanN 1 h = B := ⟨_, rfl⟩
  obtain ⟨C, hC⟩ : ∃ C, spanN (h + 1) n = C := ⟨_, rfl⟩
  rw [hA] at cA q0 q1 q2
  rw [hB] at cB q3
  rw [hC] at cC q4
  clear hA hB hC t0 t1 t2 t3 t4 hh
  have hb : ∀ (o : Obj) (q : Nat), Below w.heap.size w ((w.alloc o).drewN q) := fun o q => below_drewN ((Below.refl _ w).alloc (Nat.le_refl _) o) q
  have HB := hid hb
  clear hb
  rcases (show k = 0 ∨ k = 1 ∨ k = 2 ∨ k = 3 ∨ k = 4 by omega) with rfl | rfl | rfl | rfl | rfl
  all_goals
    unfold nv
    go_enter Tryz.func175, Tryz.ntmps175
    go_wp2
    go_quiet ((go_at_call 150; first | with_reducible refine Calls.quiet_of (cA _) | with_reducible refine Calls.quiet_of (cB _) | with_reducible refine Calls.quiet_of (cC _)))
    go_wp2
    go_ret
    first | exact ⟨ret_int q0, HB.out _ _⟩ | exact ⟨ret_int q1, HB.out _ _⟩ | exact ⟨ret_int q2, HB.out _ _⟩ | exact ⟨ret_int q3, HB.out _ _⟩ | exact ⟨ret_int q4, HB.out _ _⟩

end Go.Proofs.YtigdcgklpapfbaaGreatDoor

set_option linter.unusedVariables false
namespace Go.Proofs.YtigdcgklpapfbaaGreatDoor
open Go Go.Proofs Go.RowKit Go.Lib

/-- The cells of the table of names. -/
def nameCells : List Value := (nv 0).toList ++ (nv 1).toList ++ (nv 2).toList ++ (nv 3).toList ++ (nv 4).toList
def Names (w : World) : Prop := ∀ (j : Nat) (v : Value), nameCells[j]? = some v → w.cell? ⟨5, j, none⟩ = some v
theorem kindOf_some {k : Nat} {x : Str} (hk : k < 5) (h : wordS k = x) : kindOf x = some k := by
  subst h
  rcases (show k = 0 ∨ k = 1 ∨ k = 2 ∨ k = 3 ∨ k = 4 by omega) with rfl | rfl | rfl | rfl | rfl <;> decide
theorem kindOf_none {x : Str} (h : ∀ i, i < 5 → wordS i ≠ x) : kindOf x = none := by
  unfold kindOf
  rw [List.find?_eq_none]
  intro k hk
  simp only [decide_eq_true_eq]
  exact h k (List.mem_range.1 hk)
def setOfM (x : Str) (n : Nat) : Nat × Bool := match kindOf x with | some k => (nmM k n, true) | none => (0, false)
theorem tl_eq (s : ByteArray) : s.toList = lst s := Lib.toList_data s
theorem idx0 (w : World) : (Instr.index 209 (Value.agg #[Value.string { data := #[97, 108, 108] }, Value.int IntKind.i64 1048575, Value.bool true, Value.bool true, Value.string { data := #[111, 100, 100] }, Value.int IntKind.i64 349525, Value.bool true, Value.bool true, Value.string { data := #[101, 118, 101, 110] }, Value.int IntKind.i64 699050, Value.bool true, Value.bool true, Value.string { data := #[102, 105, 114, 115, 116] }, Value.int IntKind.i64 1048575, Value.bool true, Value.bool false, Value.string { data := #[115, 101, 99, 111, 110, 100] }, Value.int IntKind.i64 1048575, Value.bool false, Value.bool true]) (Value.int IntKind.i64 0)).run Tryz.prog w = .ok (Value.agg #[Value.string { data := #[97, 108, 108] }, Value.int IntKind.i64 1048575, Value.bool true, Value.bool true]) w := by kernel_rfl
theorem idx1 (w : World) : (Instr.index 209 (Value.agg #[Value.string { data := #[97, 108, 108] }, Value.int IntKind.i64 1048575, Value.bool true, Value.bool true, Value.string { data := #[111, 100, 100] }, Value.int IntKind.i64 349525, Value.bool true, Value.bool true, Value.string { data := #[101, 118, 101, 110] }, Value.int IntKind.i64 699050, Value.bool true, Value.bool true, Value.string { data := #[102, 105, 114, 115, 116] }, Value.int IntKind.i64 1048575, Value.bool true, Value.bool false, Value.string { data := #[115, 101, 99, 111, 110, 100] }, Value.int IntKind.i64 1048575, Value.bool false, Value.bool true]) (Value.int IntKind.i64 1)).run Tryz.prog w = .ok (Value.agg #[Value.string { data := #[111, 100, 100] }, Value.int IntKind.i64 349525, Value.bool true, Value.bool true]) w := by kernel_rfl
theorem idx2 (w : World) : (Instr.index 209 (Value.agg #[Value.string { data := #[97, 108, 108] }, Value.int IntKind.i64 1048575, Value.bool true, Value.bool true, Value.string { data := #[111, 100, 100] }, Value.int IntKind.i64 349525, Value.bool true, Value.bool true, Value.string { data := #[101, 118, 101, 110] }, Value.int IntKind.i64 699050, Value.bool true, Value.bool true, Value.string { data := #[102, 105, 114, 115, 116] }, Value.int IntKind.i64 1048575, Value.bool true, Value.bool false, Value.string { data := #[115, 101, 99, 111, 110, 100] }, Value.int IntKind.i64 1048575, Value.bool false, Value.bool true]) (Value.int IntKind.i64 2)).run Tryz.prog w = .ok (Value.agg #[Value.string { data := #[101, 118, 101, 110] }, Value.int IntKind.i64 699050, Value.bool true, Value.bool true]) w := by kernel_rfl
theorem idx3 (w : World) : (Instr.index 209 (Value.agg #[Value.string { data := #[97, 108, 108] }, Value.int IntKind.i64 1048575, Value.bool true, Value.bool true, Value.string { data := #[111, 100, 100] }, Value.int IntKind.i64 349525, Value.bool true, Value.bool true, Value.string { data := #[101, 118, 101, 110] }, Value.int IntKind.i64 699050, Value.bool true, Value.bool true, Value.string { data := #[102, 105, 114, 115, 116] }, Value.int IntKind.i64 1048575, Value.bool true, Value.bool false, Value.string { data := #[115, 101, 99, 111, 110, 100] }, Value.int IntKind.i64 1048575, Value.bool false, Value.bool true]) (Value.int IntKind.i64 3)).run Tryz.prog w = .ok (Value.agg #[Value.string { data := #[102, 105, 114, 115, 116] }, Value.int IntKind.i64 1048575, Value.bool true, Value.bool false]) w := by kernel_rfl
theorem idx4 (w : World) : (Instr.index 209 (Value.agg #[Value.string { data := #[97, 108, 108] }, Value.int IntKind.i64 1048575, Value.bool true, Value.bool true, Value.string { data := #[111, 100, 100] }, Value.int IntKind.i64 349525, Value.bool true, Value.bool true, Value.string { data := #[101, 118, 101, 110] }, Value.int IntKind.i64 699050, Value.bool true, Value.bool true, Value.string { data := #[102, 105, 114, 115, 116] }, Value.int IntKind.i64 1048575, Value.bool true, Value.bool false, Value.string { data := #[115, 101, 99, 111, 110, 100] }, Value.int IntKind.i64 1048575, Value.bool false, Value.bool true]) (Value.int IntKind.i64 4)).run Tryz.prog w = .ok (Value.agg #[Value.string { data := #[115, 101, 99, 111, 110, 100] }, Value.int IntKind.i64 1048575, Value.bool false, Value.bool true]) w := by kernel_rfl
/-- The table of names as one value. -/
def NA : Array Value := #[Value.string { data := #[97, 108, 108] }, Value.int IntKind.i64 1048575, Value.bool true, Value.bool true, Value.string { data := #[111, 100, 100] }, Value.int IntKind.i64 349525, Value.bool true, Value.bool true, Value.string { data := #[101, 118, 101, 110] }, Value.int IntKind.i64 699050, Value.bool true, Value.bool true, Value.string { data := #[102, 105, 114, 115, 116] }, Value.int IntKind.i64 1048575, Value.bool true, Value.bool false, Value.string { data := #[115, 101, 99, 111, 110, 100] }, Value.int IntKind.i64 1048575, Value.bool false, Value.bool true]
theorem idx_any (k : Nat) (hk : k < 5) : ∃ (T : ByteArray) (m : Int) (a b : Bool), nv k = #[.string T, .int .i64 m, .bool a, .bool b] ∧ lst T = wordS k ∧
    ∀ w, (Instr.index 209 (Value.agg NA) (Value.int IntKind.i64 (k : Int))).run Tryz.prog w = .ok (Value.agg #[.string T, .int .i64 m, .bool a, .bool b]) w := by
  rcases (show k = 0 ∨ k = 1 ∨ k = 2 ∨ k = 3 ∨ k = 4 by omega) with rfl | rfl | rfl | rfl | rfl
  · exact ⟨_, _, _, _, rfl, rfl, idx0⟩
  · exact ⟨_, _, _, _, rfl, rfl, idx1⟩
  · exact ⟨_, _, _, _, rfl, rfl, idx2⟩
  · exact ⟨_, _, _, _, rfl, rfl, idx3⟩
  · exact ⟨_, _, _, _, rfl, rfl, idx4⟩
theorem toListEq {T s : ByteArray} (h : lst T = lst s) : (T.toList == s.toList) = true := by rw [tl_eq, tl_eq]; simpa using h
theorem toListNe {T s : ByteArray} (h : ¬ lst T = lst s) : (T.toList == s.toList) = false := by rw [tl_eq, tl_eq]; simpa using h

/-- What loading the table gives. -/
def Entry (AR : Array Value) : Prop := ∀ k, k < 5 → ∃ (T : ByteArray) (m : Int) (a b : Bool), nv k = #[.string T, .int .i64 m, .bool a, .bool b] ∧ lst T = wordS k ∧
    ∀ w, (Instr.index 209 (Value.agg AR) (Value.int IntKind.i64 (k : Int))).run Tryz.prog w = .ok (Value.agg #[.string T, .int .i64 m, .bool a, .bool b]) w
theorem load_names {w : World} (hT : Names w) : ∃ L : List Value, Hid (Entry L.toArray) ∧ w.rangeAt 5 0 L ∧ (Tryz.prog.info? 209).map (·.size) = some L.length :=
  ⟨nameCells, hid idx_any, fun j v h => by rw [Nat.zero_add]; exact hT j v h, by kernel_rfl⟩

set_option maxHeartbeats 4000000 in
set_option maxRecDepth 100000 in
theorem setOf_any (s : ByteArray) (n : Nat) (h1 : 1 ≤ n) (h2 : n ≤ 20) (w : World) (hT : Names w) :
    Calls Tryz.prog 187 #[.string s, .int .i64 (n : Int)] w fun e w' => e = .returned (.tuple #[.int .i64 ((setOfM (lst s) n).1 : Nat), .bool (setOfM (lst s) n).2]) ∧ Below w.heap.size w w' := by
  obtain ⟨R, hR⟩ : ∃ R, setOfM (lst s) n = R := ⟨_, rfl⟩
  have HR := hid hR
  obtain ⟨L, hX, hL1, hL2⟩ := load_names hT
  have HL1 := hid hL1
  have HL2 := hid hL2
  clear hL1 hL2
  have cI := hid (fun k hk w => in_any k n hk h1 h2 w)
  rw [hR]
  clear hR hT
  go_enter Tryz.func187, Tryz.ntmps187
  go_wp2_with (refine wpList_load_mid rfl 209 _ rfl 5 0 rfl L _ HL1.out Tryz.underlying209 rfl HL2.out ?_)
  generalize L.toArray = AR at hX ⊢
  clear HL1 HL2
  go_loopw [9] (fun iv wr => ∃ k : Nat, iv = .int .i64 (k : Int) ∧ k ≤ 5 ∧ Hid (∀ i, i < k → wordS i ≠ lst s) ∧ Hid (Below w.heap.size w wr)) (fun iv _ => 5 - (RowKit.intOf iv).toNat)
  case atStart => exact ⟨0, rfl, by omega, hid (fun i hi => absurd hi (by omega)), hid (Below.refl _ _)⟩
  case round =>
    obtain ⟨k, rfl, hk, hne, hB⟩ := hrel
    by_cases hlt : k < 5
    · have hltz : (k : Int) < 5 := by omega
      have HB2 : Hid (∀ o : Obj, Below w.heap.size w (wr.alloc o)) := hid (fun o => hB.out.alloc hB.out.size o)
      obtain ⟨T, m, a, b, hnv, hTw, hix⟩ := hX.out k hlt
      have HN := hid hnv
      have HTW := hid hTw
      clear hnv hTw
      by_cases hw : lst T = lst s
      · have hr : R = (nmM k n, true) := by
          rw [← HR.out]
          unfold setOfM
          rw [kindOf_some hlt (HTW.out.symm.trans hw)]
        subst hr
        have he := toListEq hw
        have cJ := hid (fun w => by have := cI.out k hlt w; rw [HN.out] at this; exact this)
        clear hw HR
        go_wp2_with fail
        refine (cJ.out _).mono ?_
        rintro e w3 ⟨rfl, hb3⟩
        have HB3 := hid ((HB2.out _).trans (hb3.mono (HB2.out _).size))
        clear hb3
        go_wp2
        go_ret2
        exact ⟨rfl, HB3.out⟩
      · have hnx : Hid (∀ i, i < k + 1 → wordS i ≠ lst s) := hid (fun i hi => by
          rcases Nat.lt_or_ge i k with h | h
          · exact hne.out i h
          · obtain rfl : i = k := by omega
            exact fun e => hw (HTW.out.trans e))
        have he := toListNe hw
        clear hw
        go_wp2
        go_roundw
        case rel => exact ⟨k + 1, by go_num, by omega, hnx, hid (HB2.out _)⟩
        case measure => simp [RowKit.intOf]; omega
    · obtain rfl : k = 5 := by omega
      have hr : R = (0, false) := by
        rw [← HR.out]
        unfold setOfM
        rw [kindOf_none hne.out]
      subst hr
      go_wp2
      go_ret2
      exact ⟨rfl, hB.out⟩

theorem find_first {p : Nat → Bool} {k : Nat} (hk : k < 5) (h : p k = true) (hn : ∀ i, i < k → p i = false) : (List.range 5).find? p = some k := by
  rcases (show k = 0 ∨ k = 1 ∨ k = 2 ∨ k = 3 ∨ k = 4 by omega) with rfl | rfl | rfl | rfl | rfl
  · simp [List.range, List.range.loop, h]
  · simp [List.range, List.range.loop, h, hn 0 (by omega)]
  · simp [List.range, List.range.loop, h, hn 0 (by omega), hn 1 (by omega)]
  · simp [List.range, List.range.loop, h, hn 0 (by omega), hn 1 (by omega), hn 2 (by omega)]
  · simp [List.range, List.range.loop, h, hn 0 (by omega), hn 1 (by omega), hn 2 (by omega), hn 3 (by omega)]
theorem nameK_some {s n k : Nat} (hk : k < 5) (h : nmM k n = s) (hn : ∀ i, i < k → nmM i n ≠ s) : nameK s n = some k :=
  find_first hk (decide_eq_true h) (fun i hi => decide_eq_false (hn i hi))
theorem nameK_none {s n : Nat} (hn : ∀ i, i < 5 → nmM i n ≠ s) : nameK s n = none := by
  unfold nameK
  rw [List.find?_eq_none]
  intro k hk
  simp only [decide_eq_true_eq]
  exact hn k (List.mem_range.1 hk)
def nameOfM (s n : Nat) : Str × Bool := match nameK s n with | some k => (wordS k, true) | none => ([], false)
theorem ba_of {T : ByteArray} {l : Str} (h : lst T = l) : T = ba l := by rw [← h, ba_lst]

set_option maxHeartbeats 4000000 in
set_option maxRecDepth 100000 in
theorem nameOf_any (s n : Nat) (h1 : 1 ≤ n) (h2 : n ≤ 20) (w : World) (hT : Names w) :
    Calls Tryz.prog 138 #[.int .i64 (s : Int), .int .i64 (n : Int)] w fun e w' => e = .returned (.tuple #[.string (ba (nameOfM s n).1), .bool (nameOfM s n).2]) ∧ Below w.heap.size w w' := by
  obtain ⟨R, hR⟩ : ∃ R, nameOfM s n = R := ⟨_, rfl⟩
  have HR := hid hR
  obtain ⟨L, hX, hL1, hL2⟩ := load_names hT
  have HL1 := hid hL1
  have HL2 := hid hL2
  clear hL1 hL2
  have cI := hid (fun k hk w => in_any k n hk h1 h2 w)
  rw [hR]
  clear hR hT
  go_enter Tryz.func138, Tryz.ntmps138
  go_wp2_with (refine wpList_load_mid rfl 209 _ rfl 5 0 rfl L _ HL1.out Tryz.underlying209 rfl HL2.out ?_)
  generalize L.toArray = AR at hX ⊢
  clear HL1 HL2
  go_loopw [9] (fun iv wr => ∃ k : Nat, iv = .int .i64 (k : Int) ∧ k ≤ 5 ∧ Hid (∀ i, i < k → nmM i n ≠ s) ∧ Hid (Below w.heap.size w wr)) (fun iv _ => 5 - (RowKit.intOf iv).toNat)
  case atStart => exact ⟨0, rfl, by omega, hid (fun i hi => absurd hi (by omega)), hid (Below.refl _ _)⟩
  case round =>
    obtain ⟨k, rfl, hk, hne, hB⟩ := hrel
    by_cases hlt : k < 5
    · have hltz : (k : Int) < 5 := by omega
      have HB2 : Hid (∀ o : Obj, Below w.heap.size w (wr.alloc o)) := hid (fun o => hB.out.alloc hB.out.size o)
      obtain ⟨T, m, a, b, hnv, hTw, hix⟩ := hX.out k hlt
      have HN := hid hnv
      have HTW := hid (ba_of hTw)
      have cJ := hid (fun w => by have := cI.out k hlt w; rw [HN.out] at this; exact this)
      clear hnv hTw
      by_cases hw : nmM k n = s
      · have hr : R = (wordS k, true) := by
          rw [← HR.out]
          unfold nameOfM
          rw [nameK_some hlt hw hne.out]
        subst hr
        subst hw
        have he : (((nmM k n : Nat) : Int) == ((nmM k n : Nat) : Int)) = true := by simp
        clear HR
        obtain ⟨W1, hW1⟩ : ∃ W1, wr.alloc (.cells #[.string T, .int .i64 m, .bool a, .bool b] 208) = W1 := ⟨_, rfl⟩
        have HB3 : Hid (Below w.heap.size w W1) := hid (by rw [← hW1]; exact HB2.out _)
        have HC : Hid (W1.heap[wr.heap.size]? = some (.cells #[.string T, .int .i64 m, .bool a, .bool b] 208 (0, 0))) := hid (by rw [← hW1]; exact heap_alloc_new wr _)
        have HW1 := hid hW1
        clear hW1
        go_wp2_with fail
        rw [HW1.out]
        refine (cJ.out _).mono ?_
        rintro e w3 ⟨rfl, hb3⟩
        have HB4 := hid (HB3.out.trans (hb3.mono HB3.out.size))
        have hc3 : w3.cell? ⟨wr.heap.size, 0, none⟩ = some (.string T) := by
          rw [Lib.cell_of_heap ((hb3.block _ (Array.getElem?_eq_some_iff.1 HC.out).1).trans HC.out)]
          rfl
        clear hb3
        go_wp2
        go_ret2
        rw [← HTW.out]
        exact ⟨rfl, HB4.out⟩
      · have hnx : Hid (∀ i, i < k + 1 → nmM i n ≠ s) := hid (fun i hi => by
          rcases Nat.lt_or_ge i k with h | h
          · exact hne.out i h
          · obtain rfl : i = k := by omega
            exact hw)
        have he : (((nmM k n : Nat) : Int) == (s : Int)) = false := by simp; omega
        clear hw
        go_wp2_with fail
        refine (cJ.out _).mono ?_
        rintro e w3 ⟨rfl, hb3⟩
        have HB3 := hid ((HB2.out _).trans (hb3.mono (HB2.out _).size))
        clear hb3
        go_wp2
        go_roundw
        case rel => exact ⟨k + 1, by go_num, by omega, hnx, HB3⟩
        case measure => simp [RowKit.intOf]; omega
    · obtain rfl : k = 5 := by omega
      have hr : R = ([], false) := by
        rw [← HR.out]
        unfold nameOfM
        rw [nameK_none hne.out]
      subst hr
      go_wp2
      go_ret2
      exact ⟨rfl, hB.out⟩
end Go.Proofs.YtigdcgklpapfbaaGreatDoor
