/-
  The reference's follows: whether a code is the next one of another. Conditions: both are at most 16 bytes long, the width is at most 16.
-/
import Derived.Test.YtldnbneblpebiaaGreatDoorR3
import Derived.Test.YtldnbneblpebiaaGreatDoorW3
import Derived.Test.YtldnbneblpebiaaGreatDoorAhead
import Derived.Test.YtldnbneblpebiaaGreatDoorC6
set_option linter.unusedVariables false
namespace Go.Proofs.YtldnbneblpebiaaGreatDoor
open Go Go.Proofs Go.RowKit Go.Lib

/-- Whether a code is the next one of another, in a width. -/
def followsB (c p : Str) (k : Nat) : Bool := hasL p && decide (c = preS p ++ wrS (numL p + 1) k)

set_option maxHeartbeats 4000000 in
set_option maxRecDepth 100000 in
theorem follows_any (c p : ByteArray) (k : Nat) (hc : c.size ≤ 16) (hp : p.size ≤ 16) (hk : k ≤ 16) (w : World) :
    Calls Tryz.prog 40 #[.string c, .string p, .int .i64 (k : Int)] w fun e w' => e = .returned (.bool (followsB (lst c) (lst p) k)) ∧ Below w.heap.size w w' := by
  have cT := tail_any p hp
  obtain ⟨h16l, h16p⟩ := last_len (lst p) (by rw [← Lib.size_eq]; exact hp)
  have hdg := last_dgs (lst p)
  have hnum : numL (lst p) < 10000000000000001 := by
    have h1 := numN_lt _ hdg
    have h2 : 10 ^ (lastS (lst p)).length ≤ 10 ^ 16 := Nat.pow_le_pow_right (by omega) h16l
    have h3 : 10 ^ 16 = 10000000000000000 := by decide
    unfold numL
    omega
  have cN := number_any (ba (lastS (lst p))) h16l hdg
  rw [show numN (lst (ba (lastS (lst p)))) = numL (lst p) from rfl] at cN
  obtain ⟨ANS, hANS⟩ : ∃ ANS, followsB (lst c) (lst p) k = ANS := ⟨_, rfl⟩
  rw [hANS]
  unfold followsB hasL at hANS
  have hsz : (ba (lastS (lst p))).size = (lastS (lst p)).length := rfl
  have hfz : (ba (preS (lst p))).size = (preS (lst p)).length := rfl
  obtain ⟨N, hN⟩ : ∃ N, numL (lst p) = N := ⟨_, rfl⟩
  rw [hN] at cN hnum hANS
  have hW := fun w => written_any (N + 1) k (by omega) hk w
  rw [show ((N + 1 : Nat) : Int) = (N : Int) + 1 by omega] at hW
  have hwl : (ba (wrS (N + 1) k)).size ≤ 20 := by
    have h1 := dec_len (N + 1) 17 (by omega) (by omega)
    show (wrS (N + 1) k).length ≤ 20
    rw [wr_len]
    omega
  by_cases h0 : 0 < (ba (lastS (lst p))).size
  · obtain ⟨x1, x2, x3, x4⟩ := str_no h0
    have hne : (lastS (lst p)).isEmpty = false := by
      cases h : lastS (lst p) with
      | nil => rw [h] at h0; exact absurd h0 (by decide)
      | cons a b => rfl
    rw [hne] at hANS
    generalize ba (lastS (lst p)) = LA at *
    have hS : ba (preS (lst p)) ++ ba (wrS (N + 1) k) = ba (preS (lst p) ++ wrS (N + 1) k) := by apply ByteArray.ext; simp [ba]
    have add1 : ∀ w, (Op.stringOp .add (ba (preS (lst p))) (ba (wrS (N + 1) k))).run Tryz.prog w = .ok (.string (ba (preS (lst p) ++ wrS (N + 1) k))) w := fun w => by
      rw [run_string_add_sum (w := w) _ _ (by omega), hS]
    have hw1 : IntKind.i64.wrap ((N : Int) + 1) = (N : Int) + 1 := IntWalk.i64_in _ (by omega)
    obtain ⟨S, hSS⟩ : ∃ S, ba (preS (lst p) ++ wrS (N + 1) k) = S := ⟨_, rfl⟩
    have hA2 : Hid (lst c = lst S → ANS = true) := hid (fun h => by
      rw [← hANS]
      rw [← hSS] at h
      simp
      exact h)
    have hA3 : Hid (¬ lst c = lst S → ANS = false) := hid (fun h => by
      rw [← hANS]
      rw [← hSS] at h
      simp
      exact h)
    rw [hSS] at add1
    generalize ba (preS (lst p)) = FR at *
    generalize ba (wrS (N + 1) k) = WR at *
    have CT := hid cT
    have CN := hid cN
    have CW := hid hW
    clear cT cN hW hS hSS hANS hdg h16l h16p hN hne hsz hfz
    rcases str_eq (a := c) (b := S) with ⟨he, t1, t2⟩ | ⟨he, t1, t2⟩
    · have hr := hA2.out he
      subst hr
      clear he hA2 hA3
      go_enter Tryz.func40, Tryz.ntmps40
      go_wp2_with fail
      refine (CT.out _).mono ?_
      rintro e w1 ⟨rfl, q, rfl⟩
      have HB1 : Hid (Below w.heap.size w (w.drewN q)) := hid (below_drewN (Below.refl _ _) q)
      go_wp2_with fail
      refine (CN.out _).mono ?_
      rintro e w2 ⟨rfl, rfl⟩
      go_wp2_with fail
      refine (CW.out _).mono ?_
      rintro e w3 ⟨rfl, hb3⟩
      have HB3 := hid (HB1.out.trans (hb3.mono HB1.out.size))
      clear hb3
      go_wp2
      go_ret
      exact ⟨rfl, HB3.out⟩
    · have hr := hA3.out he
      subst hr
      clear he hA2 hA3
      go_enter Tryz.func40, Tryz.ntmps40
      go_wp2_with fail
      refine (CT.out _).mono ?_
      rintro e w1 ⟨rfl, q, rfl⟩
      have HB1 : Hid (Below w.heap.size w (w.drewN q)) := hid (below_drewN (Below.refl _ _) q)
      go_wp2_with fail
      refine (CN.out _).mono ?_
      rintro e w2 ⟨rfl, rfl⟩
      go_wp2_with fail
      refine (CW.out _).mono ?_
      rintro e w3 ⟨rfl, hb3⟩
      have HB3 := hid (HB1.out.trans (hb3.mono HB1.out.size))
      clear hb3
      go_wp2
      go_ret
      exact ⟨rfl, HB3.out⟩
  · obtain ⟨x1, x2, x3, x4⟩ := str_yes h0
    have hne : (lastS (lst p)).isEmpty = true := by
      cases h : lastS (lst p) with
      | nil => rfl
      | cons a b => rw [h] at h0; exact absurd (Nat.succ_pos _) h0
    have hr : ANS = false := by rw [← hANS, hne]; rfl
    subst hr
    generalize ba (lastS (lst p)) = LA at *
    generalize ba (preS (lst p)) = FR at *
    have CT := hid cT
    clear cT cN hW hANS hdg h16l h16p hN hne hsz hfz
    go_enter Tryz.func40, Tryz.ntmps40
    go_wp2_with fail
    refine (CT.out _).mono ?_
    rintro e w1 ⟨rfl, q, rfl⟩
    have HB1 : Hid (Below w.heap.size w (w.drewN q)) := hid (below_drewN (Below.refl _ _) q)
    go_wp2
    go_ret
    exact ⟨rfl, HB1.out⟩
end Go.Proofs.YtldnbneblpebiaaGreatDoor
