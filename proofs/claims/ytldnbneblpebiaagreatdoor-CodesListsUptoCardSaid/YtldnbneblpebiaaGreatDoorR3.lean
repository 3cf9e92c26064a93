/-
  The reference's tail and number: a code's last number. Conditions: as the lemmas state.
-/
import Derived.Test.YtldnbneblpebiaaGreatDoorJoinM
import Derived.Test.YtldnbneblpebiaaGreatDoorC4
import Derived.BigQuiet
set_option linter.unusedVariables false
namespace Go.Proofs.YtldnbneblpebiaaGreatDoor
open Go Go.Proofs Go.RowKit Go.Lib

theorem pre_dg (s : Str) (x : UInt8) (h0 : 0 < (preS s).length) (hx : s[(preS s).length - 1]? = some x) : dg x = false := by
  have hs := pre_split s
  have h2 : (preS s)[(preS s).length - 1]? = some x := by
    have : s[(preS s).length - 1]? = (preS s ++ lastS s)[(preS s).length - 1]? := by rw [hs]
    rw [this, List.getElem?_append_left (by omega)] at hx
    exact hx
  rw [← List.getLast?_eq_getElem?] at h2
  obtain ⟨ys, h3⟩ := List.getLast?_eq_some_iff.1 h2
  exact pre_end s _ x h3
theorem last_dg (s : Str) (j : Nat) (x : UInt8) (h : (preS s).length ≤ j) (hx : s[j]? = some x) : dg x = true := by
  refine last_dgs s x ?_
  refine List.mem_of_getElem? (i := j - (preS s).length) ?_
  unfold lastS
  rw [List.getElem?_drop, show (preS s).length + (j - (preS s).length) = j by omega]
  exact hx
theorem lst_get (s : ByteArray) (j : Nat) (h : j < s.size) : (lst s)[j]? = some (s[j]'h) := by
  have : j < s.data.size := h
  show s.data.toList[j]? = _
  rw [Array.getElem?_toList, Array.getElem?_eq_getElem this]
  rfl

set_option maxHeartbeats 4000000 in
set_option maxRecDepth 100000 in
theorem tail_any (s : ByteArray) (hs : s.size ≤ 16) (w : World) : Calls Tryz.prog 39 #[.string s] w fun e w' => e = .returned (.tuple #[.string (ba (preS (lst s))), .string (ba (lastS (lst s)))]) ∧ ∃ q, w' = w.drewN q := by
  have hsp := congrArg List.length (pre_split (lst s))
  rw [List.length_append, ← Lib.size_eq] at hsp
  have hD := fun j h h1 => last_dg (lst s) j (s[j]'h) h1 (lst_get s j h)
  have hF := fun h h1 => pre_dg (lst s) (s[(preS (lst s)).length - 1]'h) h1 (lst_get s _ h)
  have e1 : s.extract 0 (preS (lst s)).length = ba (preS (lst s)) := by
    rw [← ba_lst (s.extract 0 (preS (lst s)).length), lst_extract]
    have := congrArg (List.take (preS (lst s)).length) (pre_split (lst s))
    rw [List.take_left] at this
    rw [← this, List.drop_zero]
    rfl
  have e2 : s.extract (preS (lst s)).length s.size = ba (lastS (lst s)) := by
    rw [← ba_lst (s.extract (preS (lst s)).length s.size), lst_extract, List.take_of_length_le (by rw [← Lib.size_eq]; exact Nat.le_refl _)]
    rfl
  rw [← e1, ← e2]
  generalize (preS (lst s)).length = n at hsp hD hF e1 e2 ⊢
  have HD := hid hD
  have HF := hid hF
  have hns : n ≤ s.size := by omega
  clear hD hF e1 e2 hsp
  go_enter Tryz.func39, Tryz.ntmps39
  go_wp2
  go_loop [4] (fun i => ∃ k : Nat, n ≤ k ∧ k ≤ s.size ∧ i = .int .i64 (k : Int)) (fun i => (RowKit.intOf i).toNat)
  case atStart => exact ⟨s.size, hns, Nat.le_refl _, rfl⟩
  case round =>
    obtain ⟨k, hk1, hk2, rfl⟩ := hrel
    rcases Nat.eq_zero_or_pos k with rfl | hk0
    · obtain rfl : n = 0 := by omega
      go_wp2
      go_quiet (fail)
      go_wp2
      go_ret2
      exact ⟨by simp, _, rfl⟩
    · obtain ⟨m, rfl⟩ : ∃ m, k = m + 1 := ⟨k - 1, by omega⟩
      have hm : m < s.size := by omega
      have cD := digit_any (s[m]'hm)
      have hz : (0 : Int) < (m : Int) + 1 := by omega
      have hw : IntKind.i64.wrap ((m : Int) + 1 - 1) = (m : Int) := by rw [IntWalk.i64_in _ (by omega)]; omega
      have hw2 : ((m : Int) + 1 - 1) = (m : Int) := by omega
      by_cases hnm : n ≤ m
      · rw [HD.out m hm hnm] at cD
        go_wp2_with fail
        refine (cD _).mono ?_
        rintro e w1 ⟨rfl, rfl⟩
        go_wp2
        go_roundw
        case rel => exact ⟨m, hnm, by omega, rfl⟩
        case measure => simp [RowKit.intOf]
      · obtain rfl : n = m + 1 := by omega
        have hf : dg (s[m]'hm) = false := HF.out (show m + 1 - 1 < s.size from hm) (by omega)
        rw [hf] at cD
        have h1 : (m : Int) + 1 ≤ (s.size : Int) := by omega
        go_wp2_with fail
        refine (cD _).mono ?_
        rintro e w1 ⟨rfl, rfl⟩
        go_wp2
        go_quiet (fail)
        go_wp2
        go_ret2
        exact ⟨rfl, _, rfl⟩

theorem num_snoc (l : Str) (x : UInt8) : numN (l ++ [x]) = 10 * numN l + (x.toNat - 48) := by
  unfold numN
  rw [List.foldl_append]
  rfl
set_option maxHeartbeats 4000000 in
set_option maxRecDepth 100000 in
theorem number_any (s : ByteArray) (hs : s.size ≤ 16) (hd : Dgs (lst s)) (w : World) : Calls Tryz.prog 48 #[.string s] w fun e w' => e = .returned (.int .i64 (numN (lst s) : Int)) ∧ w = w' := by
  have hN : ∀ k (h : k < s.size), numN ((lst s).take (k + 1)) = 10 * numN ((lst s).take k) + ((s[k]'h).toNat - 48) ∧ 48 ≤ (s[k]'h).toNat ∧ (s[k]'h).toNat ≤ 57 := fun k h => by
    have hg := lst_get s k h
    have h1 := dg_val (hd _ (List.mem_of_getElem? hg))
    refine ⟨?_, h1⟩
    rw [← num_snoc, List.take_add_one, hg]
    rfl
  have hL : ∀ k, k ≤ s.size → numN ((lst s).take k) < 10000000000000001 := fun k h => by
    have h1 := numN_lt ((lst s).take k) (fun c hc => hd c (List.mem_of_mem_take hc))
    have h2 : 10 ^ ((lst s).take k).length ≤ 10 ^ 16 := Nat.pow_le_pow_right (by omega) (by simp; omega)
    have h3 : 10 ^ 16 = 10000000000000000 := by decide
    omega
  have hE : numN (lst s) = numN ((lst s).take s.size) := by rw [List.take_of_length_le (by rw [← Lib.size_eq]; exact Nat.le_refl _)]
  have HN := hid hN
  have HL := hid hL
  have HE := hid hE
  clear hN hL hE hd
  rw [HE.out]
  go_enter Tryz.func48, Tryz.ntmps48
  go_wp2
  go_loop [3, 4] (fun v i => ∃ k n : Nat, k ≤ s.size ∧ i = .int .i64 (k : Int) ∧ v = .int .i64 (n : Int) ∧ Hid (numN ((lst s).take k) = n)) (fun _ i => s.size - (RowKit.intOf i).toNat)
  case atStart => exact ⟨0, 0, Nat.zero_le _, rfl, rfl, hid rfl⟩
  case round =>
    obtain ⟨k, n, hk, rfl, rfl, hv⟩ := hrel
    by_cases hlt : k < s.size
    · obtain ⟨h1, h2, h3⟩ := HN.out k hlt
      have h4 := HL.out k hk
      rw [hv.out] at h1 h4
      have hz : (k : Int) < (s.size : Int) := by omega
      obtain ⟨x, hx⟩ : ∃ x, s[k]'hlt = x := ⟨_, rfl⟩
      rw [hx] at h1 h2 h3
      have q1 : IntKind.u8.wrap ((x.toNat : Int) - 48) = (x.toNat : Int) - 48 := by simp [IntKind.wrap, IntKind.bits, IntKind.signed]; omega
      have q2 : IntKind.i64.wrap ((x.toNat : Int) - 48) = (x.toNat : Int) - 48 := IntWalk.i64_in _ (by omega)
      have q3 : IntKind.i64.wrap (10 * (n : Int)) = 10 * (n : Int) := IntWalk.i64_in _ (by omega)
      have q4 : IntKind.i64.wrap (10 * (n : Int) + ((x.toNat : Int) - 48)) = 10 * (n : Int) + ((x.toNat : Int) - 48) := IntWalk.i64_in _ (by omega)
      have H1 := hid h1
      clear h1
      go_wp2
      go_roundw
      case rel => exact ⟨k + 1, 10 * n + (x.toNat - 48), by omega, by go_num, by congr 1; omega, H1⟩
      case measure => simp [RowKit.intOf]; omega
    · obtain rfl : k = s.size := by omega
      go_wp2
      go_ret
      exact ⟨by rw [hv.out]; rfl, rfl⟩
end Go.Proofs.YtldnbneblpebiaaGreatDoor
