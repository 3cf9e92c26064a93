/-
  Where a line of a text begins, as layer 2's statements find it. Conditions: the text has at most 2^31 bytes, the line's number is at most 2^31.
-/
import Derived.Test.YtcpkefjijinhiaaDoorReaderNext
set_option linter.unusedVariables false
namespace Go.Proofs.YtcpkefjijinhiaaDoor
open Go Go.Proofs Go.RowKit Go.Lib

/-- Where the line behind so many others begins; beyond the text it goes on by one. -/
def begP (S : ByteArray) : Nat → Nat
  | 0 => 0
  | k + 1 => begP S k + eolN (S.data.toList.drop (begP S k)) + 1
theorem begP_le (S : ByteArray) : ∀ k, begP S k ≤ S.size + k
  | 0 => Nat.zero_le _
  | k + 1 => by
    have h1 := begP_le S k
    have h2 := eolN_le (S.data.toList.drop (begP S k))
    rw [List.length_drop, ← Lib.size_eq] at h2
    unfold begP
    omega

set_option maxHeartbeats 4000000 in
set_option maxRecDepth 100000 in
theorem begin_any (S : ByteArray) (line : Int) (hS : S.size ≤ 2147483648) (hl : line ≤ 2147483648) (w : World) :
    Calls Tryd.prog 25 #[.string S, .int .i64 line] w fun e w' => e = .returned (.int .i64 ((begP S (line - 1).toNat : Nat) : Int)) ∧ ∃ q, w' = w.drewN q := by
  obtain ⟨E, hE⟩ : ∃ E, begP S (line - 1).toNat = E := ⟨_, rfl⟩
  rw [hE]
  have HE := hid hE
  clear hE
  go_enter Tryd.func25, Tryd.ntmps25
  go_wp2
  go_loopw [5, 6] (fun av nv wr => ∃ k : Nat, av = .int .i64 ((begP S k : Nat) : Int) ∧ nv = .int .i64 ((k : Int) + 1) ∧ ((k : Int) + 1 ≤ line ∨ k = 0) ∧ ∃ q, wr = w.drewN q) (fun _ nv _ => (line - RowKit.intOf nv).toNat)
  case atStart => exact ⟨0, rfl, rfl, .inr rfl, 0, rfl⟩
  case round =>
    obtain ⟨k, rfl, rfl, hk, q, rfl⟩ := hrel
    by_cases hlt : (k : Int) + 1 < line
    · have hb := begP_le S k
      obtain ⟨a, ha⟩ : ∃ a, begP S k = a := ⟨_, rfl⟩
      rw [ha] at hb
      have HA := hid ha
      rw [ha]
      clear ha
      have hkl : (k : Int) + 2 ≤ line := by omega
      go_wp2
      go_loopw [5] (fun av wr => ∃ a' : Nat, av = .int .i64 (a' : Int) ∧ a' ≤ S.size + k ∧ Hid (a' + eolN (S.data.toList.drop a') = a + eolN (S.data.toList.drop a)) ∧ wr = w.drewN q) (fun av _ => S.size - (RowKit.intOf av).toNat)
      case atStart => exact ⟨a, rfl, hb, hid rfl, rfl⟩
      case round =>
        obtain ⟨a', rfl, hb', hE', rfl⟩ := hrel
        by_cases hal : a' < S.size
        · have halz : (a' : Int) < (S.size : Int) := by omega
          obtain ⟨x, hx⟩ : ∃ x, (S[a']'hal).toNat = x := ⟨_, rfl⟩
          have hdr := drop_at S a' hal
          by_cases h10 : x = 10
          · have heq : eolN (S.data.toList.drop a') = 0 := by rw [hdr]; exact eolN_eq _ _ (by rw [hx]; exact h10)
            have hnx : Hid (begP S (k + 1) = a' + 1) := by
              have h := hE'.out
              rw [heq, Nat.add_zero] at h
              unfold begP
              rw [HA.out]
              exact hid (by omega)
            subst h10
            clear hdr hE' heq
            go_wp2
            go_roundw
            case rel => exact ⟨k + 1, by rw [hnx.out]; go_num, by go_num, .inl (by omega), q, rfl⟩
            case measure => simp [RowKit.intOf]; omega
          · have hn10 : ((x : Int) != 10) = true := by simp; omega
            have hE2 : Hid (a' + 1 + eolN (S.data.toList.drop (a' + 1)) = a + eolN (S.data.toList.drop a)) := by
              have h := hE'.out
              rw [hdr, eolN_ne _ _ (by rw [hx]; exact h10)] at h
              exact hid (by rw [← h]; omega)
            clear hdr hE'
            go_wp2
            go_roundw
            case rel => exact ⟨a' + 1, by go_num, by omega, hE2, trivial⟩
            case measure => simp [RowKit.intOf]; omega
        · have halz : ¬ (a' : Int) < (S.size : Int) := by omega
          have hnx : Hid (begP S (k + 1) = a' + 1) := by
            have h := hE'.out
            rw [List.drop_of_length_le (by rw [← Lib.size_eq]; omega), show eolN [] = 0 from rfl, Nat.add_zero] at h
            unfold begP
            rw [HA.out]
            exact hid (by omega)
          clear hE'
          go_wp2
          go_roundw
          case rel => exact ⟨k + 1, by rw [hnx.out]; go_num, by go_num, .inl (by omega), q, rfl⟩
          case measure => simp [RowKit.intOf]; omega
    · have hx : Hid (begP S k = E) := by
        rw [← HE.out, show (line - 1).toNat = k by omega]
        exact hid rfl
      go_wp2
      go_ret
      rw [hx.out]
      exact ⟨rfl, q, rfl⟩
end Go.Proofs.YtcpkefjijinhiaaDoor
