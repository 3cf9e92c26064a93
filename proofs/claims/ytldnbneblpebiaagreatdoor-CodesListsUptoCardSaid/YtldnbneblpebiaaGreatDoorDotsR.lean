/-
  The reference's dots. Conditions: the string fits into memory.
-/
import Derived.Test.YtldnbneblpebiaaGreatDoorR3
import Derived.Test.YtldnbneblpebiaaGreatDoorDotsM
set_option linter.unusedVariables false
namespace Go.Proofs.YtldnbneblpebiaaGreatDoor
open Go Go.Proofs Go.RowKit Go.Lib

theorem u8_46 {x : UInt8} : (x = 46 ∧ ((x.toNat : Int) == 46) = true) ∨ (x ≠ 46 ∧ ((x.toNat : Int) == 46) = false) := by
  by_cases h : x = 46
  · exact .inl ⟨h, by rw [h]; rfl⟩
  · refine .inr ⟨h, ?_⟩
    rw [beq_eq_false_iff_ne]
    intro e
    exact h (UInt8.toNat_inj.1 (by have : (46 : UInt8).toNat = 46 := rfl; omega))

set_option maxHeartbeats 4000000 in
set_option maxRecDepth 100000 in
theorem dots_any (s : ByteArray) (hs : s.size ≤ 4611686018427387904) (w : World) :
    Calls Tryz.prog 47 #[.string s] w fun e w' => (∃ n a : Int, e = .returned (.tuple #[.int .i64 n, .int .i64 a]) ∧ DotsAt (lst s) n a) ∧ w' = w := by
  have hlen : (lst s).length = s.size := (Lib.size_eq s).symm
  go_enter Tryz.func47, Tryz.ntmps47
  go_wp2
  go_loopw [4, 5, 6] (fun nv av iv wr => ∃ (n : Nat) (a : Int) (i : Nat), nv = .int .i64 (n : Int) ∧ av = .int .i64 a ∧ iv = .int .i64 (i : Int) ∧ i ≤ s.size ∧ n ≤ i ∧ Hid (DotsIn (lst s) n a i) ∧ Hid (wr = w)) (fun _ _ iv _ => s.size - (RowKit.intOf iv).toNat)
  case atStart => exact ⟨0, -1, 0, rfl, rfl, rfl, by omega, by omega, hid (DotsIn.start _), by trivial⟩
  case round =>
    obtain ⟨n, a, i, rfl, rfl, rfl, hi, hni, hd, hw⟩ := hrel
    obtain rfl : w = wr := hw.out.symm
    have e1 : IntKind.i64.wrap ((i : Int) + 1) = (i : Int) + 1 := IntWalk.i64_in _ (by omega)
    by_cases hlt : i + 1 < s.size
    · have hltz : (i : Int) + 1 < (s.size : Int) := by omega
      have hi0 : i < s.size := by omega
      have g0 := lst_get s i hi0
      have g1 := lst_get s (i + 1) hlt
      obtain ⟨x, hx⟩ : ∃ x, s[i]'hi0 = x := ⟨_, rfl⟩
      obtain ⟨y, hy⟩ : ∃ y, s[i + 1]'hlt = y := ⟨_, rfl⟩
      rw [hx] at g0
      rw [hy] at g1
      have G0 := hid g0
      have G1 := hid g1
      clear g0 g1
      have e2 : IntKind.i64.wrap ((n : Int) + 1) = (n : Int) + 1 := IntWalk.i64_in _ (by omega)
      have t1 : ((i : Int) + 1).toNat = i + 1 := by omega
      rcases u8_46 (x := x) with ⟨hx46, hxz⟩ | ⟨hx46, hxz⟩
      · rcases u8_46 (x := y) with ⟨hy46, hyz⟩ | ⟨hy46, hyz⟩
        · have hnx := hid (hd.out.hit (by rw [G0.out, hx46]) (by rw [G1.out, hy46]))
          clear hx46 hy46
          by_cases hn0 : n = 0
          · subst hn0
            have hnx2 : Hid (DotsIn (lst s) 1 (i : Int) (i + 2)) := hid (by have := hnx.out; simpa using this)
            clear hnx
            go_wp2
            go_roundw
            case rel => exact ⟨1, (i : Int), i + 2, rfl, rfl, by congr 1, by omega, by omega, hnx2, by trivial⟩
            case measure => simp [RowKit.intOf]; omega
          · have hnb : ((n : Int) == 0) = false := by simpa using hn0
            have hnx2 : Hid (DotsIn (lst s) (n + 1) a (i + 2)) := hid (by have := hnx.out; rwa [if_neg hn0] at this)
            clear hnx hn0
            go_wp2
            go_roundw
            case rel => exact ⟨n + 1, a, i + 2, by go_num, rfl, by congr 1, by omega, by omega, hnx2, by trivial⟩
            case measure => simp [RowKit.intOf]; omega
        · have hnx := hid (hd.out.miss G0.out G1.out (fun h => hy46 h.2))
          clear hx46 hy46
          go_wp2
          go_roundw
          case rel => exact ⟨n, a, i + 1, rfl, rfl, by go_num, by omega, by omega, hnx, by trivial⟩
          case measure => simp [RowKit.intOf]; omega
      · have hnx := hid (hd.out.miss G0.out G1.out (fun h => hx46 h.1))
        clear hx46
        go_wp2
        go_roundw
        case rel => exact ⟨n, a, i + 1, rfl, rfl, by go_num, by omega, by omega, hnx, by trivial⟩
        case measure => simp [RowKit.intOf]; omega
    · have hltz : ¬ (i : Int) + 1 < (s.size : Int) := by omega
      have hfin := hid (hd.out.done (by rw [hlen]; omega))
      go_wp2
      go_ret2
      exact ⟨⟨_, _, rfl, hfin.out⟩, rfl⟩
end Go.Proofs.YtldnbneblpebiaaGreatDoor
