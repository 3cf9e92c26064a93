/-
  What the reference's Detect returns, for any slice of bytes. Conditions: the bytes lie in memory.
-/
import Derived.Test.YtcjomjhaimlbmaaDoorDetMath
import Derived.Test.YtcjomjhaimlbmaaDoorRunes
import Derived.Lib.Hide
set_option linter.unusedVariables false
namespace Go.Proofs.YtcjomjhaimlbmaaDoor
open Go Go.Proofs Go.RowKit Go.Lib

set_option maxHeartbeats 2000000 in
set_option maxRecDepth 100000 in
theorem refDetect_any (A : Option Addr) (l : List UInt8) (c : Nat) (hl63 : l.length ≤ 9223372036854775807) (w : World) (hb : BIn w w.heap.size A l) :
    Calls Tryd.prog 15 #[.slice A l.length c] w fun e w' => e = .returned (.int .i64 (detB l)) ∧ Below w.heap.size w w' := by
  have cM := marked_any A l c w w.heap.size hb
  obtain ⟨M, hM⟩ : ∃ M, markB l = M := ⟨_, rfl⟩
  rw [hM] at cM
  cases M with
  | true =>
    have hd : detB l = 3 := if_pos hM
    have H3 := hid hd
    have CM := hid cM
    clear hM hd hb cM
    go_enter Tryd.func15, Tryd.ntmps15
    go_wp2_with (go_at_call 22; refine CM.out.mono ?_; rintro e w1 ⟨rfl, rfl⟩)
    go_ret
    rw [H3.out]
    exact ⟨rfl, Below.refl _ _⟩
  | false =>
    have hd : detB l = if ascB l = true then 1 else if properB l = true then 3 else 2 := if_neg (by rw [hM]; simp)
    have HD := hid hd
    have CM := hid cM
    have hcv : (Go.convert 22 9 (.slice A l.length c)).run Tryd.prog w = .ok (.string ⟨l.toArray⟩) w := hb.convert c 22 5 9 Tryd.underlying22 Tryd.underlying5 Tryd.underlying9
    have HCV := hid hcv
    have HB := hid hb
    clear hM hd cM hcv hb
    go_enter Tryd.func15, Tryd.ntmps15
    go_wp2_with (go_at_call 22; refine CM.out.mono ?_; rintro e w1 ⟨rfl, rfl⟩)
    go_loopw [3, 4] (fun pl i wr => ∃ i0 : Nat, pl = .bool (ascB (l.take i0)) ∧ i = .int .i64 (i0 : Int) ∧ i0 ≤ l.length ∧ wr = w) (fun _ i _ => l.length - (RowKit.intOf i).toNat)
    case atStart => exact ⟨0, rfl, rfl, Nat.zero_le _, rfl⟩
    case round =>
      obtain ⟨i0, rfl, rfl, hi0, rfl⟩ := hrel
      by_cases hlt : i0 < l.length
      · obtain ⟨b, off, rfl, _, hc⟩ := HB.out.at_ hlt
        obtain ⟨x, hx⟩ : ∃ x, l[i0].toNat = x := ⟨_, rfl⟩
        rw [hx] at hc
        have hs := ascB_take_succ l i0 x hlt hx
        obtain ⟨S, hS⟩ : ∃ S, ascB (l.take i0) = S := ⟨_, rfl⟩
        rw [hS] at hs
        have HS := hid hs
        clear hs hx
        cases S with
        | true =>
          by_cases h8 : x < 128
          · have h8z : (x : Int) < 128 := by omega
            have e8 : decide (x < 128) = true := decide_eq_true h8
            go_wp2
            go_roundw
            case rel => exact ⟨i0 + 1, by rw [HS.out, e8]; rfl, by go_num, by omega, trivial⟩
            case measure => simp [RowKit.intOf]; omega
          · have h8z : ¬ (x : Int) < 128 := by omega
            have e8 : decide (x < 128) = false := decide_eq_false h8
            go_wp2
            go_roundw
            case rel => exact ⟨i0 + 1, by rw [HS.out, e8]; rfl, by go_num, by omega, trivial⟩
            case measure => simp [RowKit.intOf]; omega
        | false =>
          go_wp2
          go_roundw
          case rel => exact ⟨i0 + 1, by rw [HS.out]; rfl, by go_num, by omega, trivial⟩
          case measure => simp [RowKit.intOf]; omega
      · have hltz : ¬ (i0 : Int) < (l.length : Int) := by omega
        have ht : l.take i0 = l := List.take_of_length_le (by omega)
        obtain ⟨S, hS⟩ : ∃ S, ascB l = S := ⟨_, rfl⟩
        rw [ht, hS]
        cases S with
        | true =>
          have h1 : detB l = 1 := by rw [HD.out, if_pos hS]
          have H1 := hid h1
          clear h1 HD ht hS
          go_wp2
          go_ret
          rw [H1.out]
          exact ⟨rfl, Below.refl _ _⟩
        | false =>
          have h1 : detB l = if properB l = true then 3 else 2 := by rw [HD.out, if_neg (by rw [hS]; simp)]
          have cP := proper_any (⟨l.toArray⟩ : ByteArray) wr
          obtain ⟨P, hP⟩ : ∃ P, properB l = P := ⟨_, rfl⟩
          rw [show (⟨l.toArray⟩ : ByteArray).data.toList = l from rfl, hP] at cP
          rw [hP] at h1
          have H1 := hid h1
          have CP := hid cP
          have hcv := HCV.out
          clear h1 HD ht cP hP hS
          cases P with
          | true =>
            go_wp2_with (go_at_call 17; refine CP.out.mono ?_; rintro e w2 ⟨rfl, hb2⟩)
            go_ret
            rw [H1.out]
            exact ⟨rfl, hb2⟩
          | false =>
            go_wp2_with (go_at_call 17; refine CP.out.mono ?_; rintro e w2 ⟨rfl, hb2⟩)
            go_ret
            rw [H1.out]
            exact ⟨rfl, hb2⟩
end Go.Proofs.YtcjomjhaimlbmaaDoor
