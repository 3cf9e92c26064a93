/-
  The name of a day by the specification (Weekday), and when a slot begins (Clock): the program's and the specification's. Conditions: the table of the days' names holds what its text lays.
-/
import Derived.Test.YtaijbdknaeeoeaaGreatDoorG7
import Derived.Test.YtaijbdknaeeoeaaGreatDoorG3
set_option linter.unusedVariables false
namespace Go.Proofs.YtaijbdknaeeoeaaGreatDoor
open Go Go.Proofs Go.RowKit Go.Lib

def RDays (w : World) : Prop := ∀ (j : Nat) (v : Value), dayCells[j]? = some v → w.cell? ⟨1, j, none⟩ = some v
theorem RDays.below {w w' : World} (h : RDays w) {B : Nat} (hb : Below B w w') (hB : 5 < B) : RDays w' :=
  fun j v hj => (hb.cell (p := ⟨1, j, none⟩) (by show 1 < B; omega)).trans (h j v hj)
theorem RDays.at_ {w : World} (h : RDays w) (y : Nat) (hy : y < 7) : w.cell? ⟨1, y, none⟩ = some (.string (ba (dayS y))) := by
  refine h y _ ?_
  rcases (show y = 0 ∨ y = 1 ∨ y = 2 ∨ y = 3 ∨ y = 4 ∨ y = 5 ∨ y = 6 by omega) with rfl | rfl | rfl | rfl | rfl | rfl | rfl <;> rfl
def wdayI (x : Str) : Int := match dayK x with | some k => (k : Int) | none => -1

set_option maxHeartbeats 4000000 in
set_option maxRecDepth 100000 in
theorem weekday_any (s : ByteArray) (w : World) (hsz : 5 < w.heap.size) (hT : RDays w) :
    Calls Tryz.prog 28 #[.string s] w fun e w' => e = .returned (.int .i64 (wdayI (lst s))) ∧ Below w.heap.size w w' := by
  obtain ⟨R, hR⟩ : ∃ R, wdayI (lst s) = R := ⟨_, rfl⟩
  have HR := hid hR
  have HT := hid hT
  rw [hR]
  clear hR hT
  go_enter Tryz.func28, Tryz.ntmps28
  go_wp2
  go_loopw [3] (fun iv wr => ∃ k : Nat, iv = .int .i64 (k : Int) ∧ k ≤ 7 ∧ Hid (∀ i, i < k → dayS i ≠ lst s) ∧ Hid (Below w.heap.size w wr)) (fun iv _ => 7 - (RowKit.intOf iv).toNat)
  case atStart => exact ⟨0, rfl, by omega, hid (fun i hi => absurd hi (by omega)), hid (Below.refl _ _)⟩
  case round =>
    obtain ⟨k, rfl, hk, hne, hB⟩ := hrel
    by_cases hlt : k < 7
    · have hltz : (k : Int) < 7 := by omega
      have hc := (HT.out.below hB.out hsz).at_ k hlt
      obtain ⟨T, hT⟩ : ∃ T, ba (dayS k) = T := ⟨_, rfl⟩
      have HTW : Hid (lst T = dayS k) := hid (by rw [← hT]; rfl)
      rw [hT] at hc
      clear hT
      by_cases hw : lst T = lst s
      · have hr : R = (k : Int) := by
          rw [← HR.out]
          unfold wdayI
          rw [dayK_of hlt (HTW.out.symm.trans hw)]
        subst hr
        have he := toListEq hw
        clear hw HR
        go_wp2
        go_ret
        exact ⟨rfl, hB.out⟩
      · have hnx : Hid (∀ i, i < k + 1 → dayS i ≠ lst s) := hid (fun i hi => by
          rcases Nat.lt_or_ge i k with h | h
          · exact hne.out i h
          · obtain rfl : i = k := by omega
            exact fun e => hw (HTW.out.trans e))
        have he := toListNe hw
        clear hw
        go_wp2
        go_roundw
        case rel => exact ⟨k + 1, by go_num, by omega, hnx, hid hB.out⟩
        case measure => simp [RowKit.intOf]; omega
    · obtain rfl : k = 7 := by omega
      have hr : R = -1 := by
        rw [← HR.out]
        unfold wdayI
        rw [dayK_none hne.out]
      subst hr
      go_wp2
      go_ret
      exact ⟨rfl, hB.out⟩
theorem clock_num {b q m : Int} (h1 : 0 ≤ b + q * m) (h2 : b + q * m ≤ 1440) : ∃ H R : Int, Int.tdiv (b + q * m) 60 = H ∧ Int.tmod (b + q * m) 60 = R ∧ 0 ≤ H ∧ H ≤ 24 ∧ 0 ≤ R ∧ R < 60 := by
  refine ⟨_, _, rfl, rfl, ?_⟩
  rw [Int.tdiv_eq_ediv_of_nonneg h1, Int.tmod_eq_emod_of_nonneg h1]
  omega
def ClockOut (r : Int × Int × Int) (w : World) (e : Ending) (w' : World) : Prop := e = .returned (.tuple #[.int .i64 r.1, .int .i64 r.2.1, .int .i64 r.2.2]) ∧ Below w.heap.size w w'
theorem mul_lt {q s m : Int} (h1 : q ≤ s) (h2 : 0 ≤ m) : q * m ≤ s * m := Int.mul_le_mul_of_nonneg_right h1 h2
set_option maxHeartbeats 4000000 in
set_option maxRecDepth 100000 in
theorem clock_any (d s b m q : Int) (w : World) : Calls Tryz.prog 9 #[.agg #[.int .i64 d, .int .i64 s, .int .i64 b, .int .i64 m], .int .i64 q] w (ClockOut (clockM d s b m q) w) := by
  have cG := fun w => isGrid_any d s b m w
  unfold Says at cG
  unfold ClockOut clockM
  cases hg : gridB d s b m with
  | false =>
    rw [hg] at cG
    rw [if_neg (by simp)]
    clear hg
    have HK := hid (K1.first w d s b m 23)
    go_enter Tryz.func9, Tryz.ntmps9
    go_wp2_with fail
    refine (cG _).mono ?_
    rintro e w1 ⟨rfl, hb⟩
    have hk := HK.out.next hb
    clear hb HK
    obtain ⟨⟨x0, x1, x2, x3, _⟩, _⟩ := id hk
    go_wp2
    go_ret3
    exact ⟨rfl, hk.b⟩
  | true =>
    rw [hg] at cG
    rw [if_pos rfl]
    obtain ⟨a1, a2, a3, a4, a5⟩ := grid_of hg
    by_cases hq : 0 ≤ q ∧ q ≤ s
    · rw [if_pos hq]
      have c1 := fun w => within_yes hq w
      have cm := fun w => minuteOf_any d s b m q hq.1 (by omega) a4.1 a4.2 a3.1 a3.2 w
      unfold Says at cm
      have hm := mul_in hq.1 (by omega) a4.1 a4.2
      have hm2 := mul_lt hq.2 (show 0 ≤ m by omega)
      obtain ⟨H, R, e1, e2, b1, b2, b3, b4⟩ := clock_num (b := b) (q := q) (m := m) (by omega) (by omega)
      have v1 : IntKind.i64.wrap H = H := IntWalk.i64_in _ (by omega)
      have v2 : IntKind.i64.wrap R = R := IntWalk.i64_in _ (by omega)
      rw [e1, e2]
      generalize b + q * m = M at cm e1 e2
      clear hg a1 a2 a3 a4 a5 hq hm hm2 b1 b2 b3 b4
      have HK := hid (K1.first w d s b m 23)
      go_enter Tryz.func9, Tryz.ntmps9
      go_wp2_with fail
      refine (cG _).mono ?_
      rintro e w1 ⟨rfl, hb⟩
      have hk := HK.out.next hb
      clear hb HK
      obtain ⟨⟨x0, x1, x2, x3, _⟩, _⟩ := id hk
      go_wp2_with fail
      refine (c1 _).mono ?_
      rintro e w1 ⟨rfl, rfl⟩
      go_wp2_with fail
      refine (cm _).mono ?_
      rintro e w1 ⟨rfl, hb⟩
      have hk := hk.next hb
      clear hb
      obtain ⟨⟨x0, x1, x2, x3, _⟩, _⟩ := id hk
      go_wp2
      go_ret3
      exact ⟨rfl, hk.b⟩
    · rw [if_neg hq]
      have c1 := fun w => within_no hq w
      clear hg a1 a2 a3 a4 a5 hq
      have HK := hid (K1.first w d s b m 23)
      go_enter Tryz.func9, Tryz.ntmps9
      go_wp2_with fail
      refine (cG _).mono ?_
      rintro e w1 ⟨rfl, hb⟩
      have hk := HK.out.next hb
      clear hb HK
      obtain ⟨⟨x0, x1, x2, x3, _⟩, _⟩ := id hk
      go_wp2_with fail
      refine (c1 _).mono ?_
      rintro e w1 ⟨rfl, rfl⟩
      go_wp2
      go_ret3
      exact ⟨rfl, hk.b⟩
set_option maxHeartbeats 4000000 in
set_option maxRecDepth 100000 in
theorem rclock_any (d s b m q : Int) (w : World) : Calls Tryz.prog 10 #[.agg #[.int .i64 d, .int .i64 s, .int .i64 b, .int .i64 m], .int .i64 q] w (ClockOut (clockM d s b m q) w) := by
  have cG := fun w => rgvalid_any d s b m w
  unfold Says at cG
  unfold ClockOut clockM
  cases hg : gridB d s b m with
  | false =>
    rw [hg, if_neg (by simp)] at cG
    rw [if_neg (by simp)]
    clear hg
    have HK := hid (K1.first w d s b m 23)
    go_enter Tryz.func10, Tryz.ntmps10
    go_wp2_with fail
    refine (cG _).mono ?_
    rintro e w1 ⟨rfl, hb⟩
    have hk := HK.out.next hb
    clear hb HK
    obtain ⟨⟨x0, x1, x2, x3, _⟩, _⟩ := id hk
    go_wp2
    go_ret3
    exact ⟨rfl, hk.b⟩
  | true =>
    rw [hg, if_pos rfl] at cG
    rw [if_pos rfl]
    obtain ⟨a1, a2, a3, a4, a5⟩ := grid_of hg
    by_cases h1 : q < 0
    · rw [if_neg (by omega)]
      have h1d : decide (q < 0) = true := decide_eq_true h1
      clear hg a1 a2 a3 a4 a5
      have HK := hid (K1.first w d s b m 23)
      go_enter Tryz.func10, Tryz.ntmps10
      go_wp2_with fail
      refine (cG _).mono ?_
      rintro e w1 ⟨rfl, hb⟩
      have hk := HK.out.next hb
      clear hb HK
      obtain ⟨⟨x0, x1, x2, x3, _⟩, _⟩ := id hk
      go_wp2
      go_ret3
      exact ⟨rfl, hk.b⟩
    · have h1d : decide (q < 0) = false := decide_eq_false h1
      by_cases h2 : s < q
      · rw [if_neg (by omega)]
        have h2d : decide (s < q) = true := decide_eq_true h2
        clear hg a1 a2 a3 a4 a5
        have HK := hid (K1.first w d s b m 23)
        go_enter Tryz.func10, Tryz.ntmps10
        go_wp2_with fail
        refine (cG _).mono ?_
        rintro e w1 ⟨rfl, hb⟩
        have hk := HK.out.next hb
        clear hb HK
        obtain ⟨⟨x0, x1, x2, x3, _⟩, _⟩ := id hk
        go_wp2
        go_ret3
        exact ⟨rfl, hk.b⟩
      · have h2d : decide (s < q) = false := decide_eq_false h2
        rw [if_pos (by omega)]
        have hm := mul_in (q := q) (m := m) (by omega) (by omega) a4.1 a4.2
        have hm2 := mul_lt (q := q) (s := s) (m := m) (by omega) (by omega)
        have e3 : IntKind.i64.wrap (q * m) = q * m := IntWalk.i64_in _ (by omega)
        have e4 : IntKind.i64.wrap (b + q * m) = b + q * m := IntWalk.i64_in _ (by omega)
        obtain ⟨H, R, e1, e2, b1, b2, b3, b4⟩ := clock_num (b := b) (q := q) (m := m) (by omega) (by omega)
        have v1 : IntKind.i64.wrap H = H := IntWalk.i64_in _ (by omega)
        have v2 : IntKind.i64.wrap R = R := IntWalk.i64_in _ (by omega)
        rw [e1, e2]
        clear hg a1 a2 a3 a4 a5 hm hm2 b1 b2 b3 b4
        have HK := hid (K1.first w d s b m 23)
        go_enter Tryz.func10, Tryz.ntmps10
        go_wp2_with fail
        refine (cG _).mono ?_
        rintro e w1 ⟨rfl, hb⟩
        have hk := HK.out.next hb
        clear hb HK
        obtain ⟨⟨x0, x1, x2, x3, _⟩, _⟩ := id hk
        go_wp2
        go_ret3
        exact ⟨rfl, hk.b⟩
end Go.Proofs.YtaijbdknaeeoeaaGreatDoor
