/-
  An item of a set: the program's readItem. Conditions: the variables hold what their text lays; the number of weeks is from 1 to 20.
-/
import Derived.Test.YtamdjgadbingjaaDoorA6
set_option linter.unusedVariables false
namespace Go.Proofs.YtamdjgadbingjaaDoor
open Go Go.Proofs Go.RowKit Go.Lib

def ItemOut (r : Nat × Int) (w : World) (e : Ending) (w' : World) : Prop := e = .returned (.tuple #[.int .i64 ((r.1 : Nat) : Int), .int .i64 r.2]) ∧ Below w.heap.size w w'
theorem ba_size (l : Str) : (ba l).size = l.length := rfl
theorem aft_le (c : UInt8) : ∀ s, (aft c s).length ≤ s.length
  | [] => Nat.le_refl _
  | x :: r => by
    unfold aft
    have := aft_le c r
    split <;> simp <;> omega

set_option maxHeartbeats 4000000 in
set_option maxRecDepth 100000 in
theorem readItem_any (s : ByteArray) (hz : s.size ≤ 4611686018427387904) (n : Nat) (h1 : 1 ≤ n) (h2 : n ≤ 20) (w : World) (hE : Env w) :
    Calls Tryd.prog 26 #[.string s, .int .i64 (n : Int)] w (ItemOut (itemM (lst s) n) w) := by
  obtain ⟨R, hR⟩ : ∃ R, itemM (lst s) n = R := ⟨_, rfl⟩
  rw [hR]
  have c37 := hid (setOf_any s n h1 h2 w hE.names)
  have hsz := hE.size
  have HE := hid hE
  cases hk : kindOf (lst s) with
  | some k =>
    have hr : R = (nmM k n, 0) := by
      rw [← hR]
      unfold itemM
      rw [hk]
    subst hr
    have hs : setOfM (lst s) n = (nmM k n, true) := by
      unfold setOfM
      rw [hk]
    have c37' := c37.out
    rw [hs] at c37'
    have C := hid c37'
    clear c37 c37' hs hk hR hE
    go_enter Tryd.func26, Tryd.ntmps26
    go_wp2_with fail
    refine C.out.mono ?_
    rintro e w' ⟨rfl, hb⟩
    have HB := hid hb
    clear hb
    go_wp2
    go_ret2
    exact ⟨rfl, HB.out⟩
  | none =>
    have hr : numM (lst s) n = R := by
      rw [← hR]
      unfold itemM
      rw [hk]
    have hs : setOfM (lst s) n = (0, false) := by
      unfold setOfM
      rw [hk]
    have c37' := c37.out
    rw [hs] at c37'
    have C := hid c37'
    clear c37 c37' hs hk hR hE
    have cC := hid (fun w => cut_any s 45 hz w)
    obtain ⟨A, hA⟩ : ∃ A, ba (bef 45 (lst s)) = A := ⟨_, rfl⟩
    obtain ⟨B, hB⟩ : ∃ B, ba (aft 45 (lst s)) = B := ⟨_, rfl⟩
    obtain ⟨d, hd⟩ : ∃ d, has 45 (lst s) = d := ⟨_, rfl⟩
    have lA : bef 45 (lst s) = lst A := by rw [← hA]; rfl
    have lB : aft 45 (lst s) = lst B := by rw [← hB]; rfl
    have hAs : A.size ≤ 4611686018427387904 := by
      rw [← hA, ba_size]
      have := bef_le 45 (lst s)
      rw [← Lib.size_eq] at this
      omega
    have hBs : B.size ≤ 4611686018427387904 := by
      rw [← hB, ba_size]
      have := aft_le 45 (lst s)
      rw [← Lib.size_eq] at this
      omega
    have cC' := cC.out
    unfold CutOut at cC'
    rw [hA, hB, hd] at cC'
    have CC := hid cC'
    have cX := hid (fun w h => readNumber_any A hAs w h)
    have cY := hid (fun w h => readNumber_any B hBs w h)
    obtain ⟨x, hx⟩ : ∃ x, smallN (lst A) = x := ⟨_, rfl⟩
    obtain ⟨y, hy⟩ : ∃ y, smallN (lst B) = y := ⟨_, rfl⟩
    have hr2 : (if x = 0 ∨ (if d = true then y else x) = 0 then ((0 : Nat), (4 : Int)) else if (if d = true then y else x) < x ∨ n < (if d = true then y else x) then (0, 3) else (spanN x (if d = true then y else x), 0)) = R := by
      rw [← hr]
      unfold numM fromN toN
      rw [lA, lB, hd, hx, hy]
    have cX' := cX.out
    have cY' := cY.out
    unfold NumOut at cX' cY'
    rw [hx] at cX'
    rw [hy] at cY'
    have CX := hid cX'
    have CY := hid cY'
    have HR := hid hr2
    have hyl : y < 100 := by rw [← hy]; exact smallN_lt _
    have hxl : x < 100 := by rw [← hx]; exact smallN_lt _
    clear hr hA hB hd lA lB hAs hBs cC cC' cX cY hx hy hr2 cX' cY'
    rcases Nat.eq_zero_or_pos x with hx0 | hx0
    · subst hx0
      have hr : R = (0, 4) := by rw [← HR.out, if_pos (.inl rfl)]
      subst hr
      clear HR
      cases d with
      | true =>
        go_enter Tryd.func26, Tryd.ntmps26
        go_wp2_with fail
        refine C.out.mono ?_
        rintro e w1 ⟨rfl, hb⟩
        have HB1 := hid hb
        clear hb
        go_wp2_with fail
        refine (CC.out _).mono ?_
        rintro e w2 ⟨rfl, q, hw2⟩
        have HB2 : Hid (Below w.heap.size w w2) := hid (by rw [hw2]; exact below_drewN HB1.out q)
        clear hw2
        go_wp2_with fail
        refine (CX.out _ (HE.out.below HB2.out hsz)).mono ?_
        rintro e w3 ⟨rfl, hb3⟩
        have HB3 := hid (HB2.out.trans (hb3.mono HB2.out.size))
        clear hb3
        go_wp2_with fail
        refine (CY.out _ (HE.out.below HB3.out hsz)).mono ?_
        rintro e w4 ⟨rfl, hb4⟩
        have HB4 := hid (HB3.out.trans (hb4.mono HB3.out.size))
        clear hb4
        go_wp2
        go_ret2
        exact ⟨rfl, HB4.out⟩
      | false =>
        go_enter Tryd.func26, Tryd.ntmps26
        go_wp2_with fail
        refine C.out.mono ?_
        rintro e w1 ⟨rfl, hb⟩
        have HB1 := hid hb
        clear hb
        go_wp2_with fail
        refine (CC.out _).mono ?_
        rintro e w2 ⟨rfl, q, hw2⟩
        have HB2 : Hid (Below w.heap.size w w2) := hid (by rw [hw2]; exact below_drewN HB1.out q)
        clear hw2
        go_wp2_with fail
        refine (CX.out _ (HE.out.below HB2.out hsz)).mono ?_
        rintro e w3 ⟨rfl, hb3⟩
        have HB3 := hid (HB2.out.trans (hb3.mono HB2.out.size))
        clear hb3
        go_wp2_with fail
        refine (CX.out _ (HE.out.below HB3.out hsz)).mono ?_
        rintro e w4 ⟨rfl, hb4⟩
        have HB4 := hid (HB3.out.trans (hb4.mono HB3.out.size))
        clear hb4
        go_wp2
        go_ret2
        exact ⟨rfl, HB4.out⟩
    · obtain ⟨a, rfl⟩ : ∃ a, x = a + 1 := ⟨x - 1, by omega⟩
      have hda : decide (a + 1 ≠ 0) = true := decide_eq_true (by omega)
      have hca : ((a + 1 : Nat) : Int) = (a : Int) + 1 := by omega
      have CX' := CX.out
      rw [hda, hca] at CX'
      have CX := hid CX'
      clear CX' hda
      -- the two ways of the second number meet
      have key : ∀ (z : Nat) (CZ : Hid (∀ w, Env w → Calls Tryd.prog 39 #[.string (if d = true then B else A)] w fun e w' => e = .returned (.tuple #[.int .i64 (z : Int), .bool (decide (z ≠ 0))]) ∧ Below w.heap.size w w'))
          (HZ : Hid ((if z = 0 then ((0 : Nat), (4 : Int)) else if z < a + 1 ∨ n < z then (0, 3) else (spanN (a + 1) z, 0)) = R)) (hzl : z < 100),
          Calls Tryd.prog 26 #[.string s, .int .i64 (n : Int)] w (ItemOut R w) := by
        clear CY HR
        intro z CZ HZ hzl
        have fin : ∀ (r : Nat × Int), R = r → True := fun _ _ => trivial
        clear fin
        rcases Nat.eq_zero_or_pos z with hz0 | hz0
        · subst hz0
          have hr : R = (0, 4) := by rw [← HZ.out, if_pos rfl]
          subst hr
          clear HZ
          cases d with
          | true =>
            go_enter Tryd.func26, Tryd.ntmps26
            go_wp2_with fail
            refine C.out.mono ?_
            rintro e w1 ⟨rfl, hb⟩
            have HB1 := hid hb
            clear hb
            go_wp2_with fail
            refine (CC.out _).mono ?_
            rintro e w2 ⟨rfl, q, hw2⟩
            have HB2 : Hid (Below w.heap.size w w2) := hid (by rw [hw2]; exact below_drewN HB1.out q)
            clear hw2
            go_wp2_with fail
            refine (CX.out _ (HE.out.below HB2.out hsz)).mono ?_
            rintro e w3 ⟨rfl, hb3⟩
            have HB3 := hid (HB2.out.trans (hb3.mono HB2.out.size))
            clear hb3
            go_wp2_with fail
            refine (CZ.out _ (HE.out.below HB3.out hsz)).mono ?_
            rintro e w4 ⟨rfl, hb4⟩
            have HB4 := hid (HB3.out.trans (hb4.mono HB3.out.size))
            clear hb4
            go_wp2
            go_ret2
            exact ⟨rfl, HB4.out⟩
          | false =>
            go_enter Tryd.func26, Tryd.ntmps26
            go_wp2_with fail
            refine C.out.mono ?_
            rintro e w1 ⟨rfl, hb⟩
            have HB1 := hid hb
            clear hb
            go_wp2_with fail
            refine (CC.out _).mono ?_
            rintro e w2 ⟨rfl, q, hw2⟩
            have HB2 : Hid (Below w.heap.size w w2) := hid (by rw [hw2]; exact below_drewN HB1.out q)
            clear hw2
            go_wp2_with fail
            refine (CX.out _ (HE.out.below HB2.out hsz)).mono ?_
            rintro e w3 ⟨rfl, hb3⟩
            have HB3 := hid (HB2.out.trans (hb3.mono HB2.out.size))
            clear hb3
            go_wp2_with fail
            refine (CZ.out _ (HE.out.below HB3.out hsz)).mono ?_
            rintro e w4 ⟨rfl, hb4⟩
            have HB4 := hid (HB3.out.trans (hb4.mono HB3.out.size))
            clear hb4
            go_wp2
            go_ret2
            exact ⟨rfl, HB4.out⟩
        · have hdz : decide (z ≠ 0) = true := decide_eq_true (by omega)
          have CZ' := CZ.out
          rw [hdz] at CZ'
          have CZ := hid CZ'
          clear CZ' hdz
          have HZ2 : Hid ((if z < a + 1 ∨ n < z then ((0 : Nat), (3 : Int)) else (spanN (a + 1) z, 0)) = R) := hid (by rw [← HZ.out, if_neg (show ¬ z = 0 by omega)])
          clear HZ
          have three : (z < a + 1 ∨ (¬ z < a + 1 ∧ n < z)) ∨ (¬ z < a + 1 ∧ ¬ n < z) := by omega
          rcases three with hbad | ⟨hg1, hg2⟩
          · have hr : R = (0, 3) := by rw [← HZ2.out, if_pos (by omega)]
            subst hr
            clear HZ2
            rcases hbad with hbad | ⟨hb1, hb2⟩
            · have hi1 : (z : Int) < (a : Int) + 1 := by omega
              cases d
              all_goals
                go_enter Tryd.func26, Tryd.ntmps26
                go_wp2_with fail
                refine C.out.mono ?_
                rintro e w1 ⟨rfl, hb⟩
                have HB1 := hid hb
                clear hb
                go_wp2_with fail
                refine (CC.out _).mono ?_
                rintro e w2 ⟨rfl, q, hw2⟩
                have HB2 : Hid (Below w.heap.size w w2) := hid (by rw [hw2]; exact below_drewN HB1.out q)
                clear hw2
                go_wp2_with fail
                refine (CX.out _ (HE.out.below HB2.out hsz)).mono ?_
                rintro e w3 ⟨rfl, hb3⟩
                have HB3 := hid (HB2.out.trans (hb3.mono HB2.out.size))
                clear hb3
                go_wp2_with fail
                refine (CZ.out _ (HE.out.below HB3.out hsz)).mono ?_
                rintro e w4 ⟨rfl, hb4⟩
                have HB4 := hid (HB3.out.trans (hb4.mono HB3.out.size))
                clear hb4
                go_wp2
                go_ret2
                exact ⟨rfl, HB4.out⟩
            · have hi1 : ¬ (z : Int) < (a : Int) + 1 := by omega
              have hi2 : (n : Int) < (z : Int) := by omega
              cases d
              all_goals
                go_enter Tryd.func26, Tryd.ntmps26
                go_wp2_with fail
                refine C.out.mono ?_
                rintro e w1 ⟨rfl, hb⟩
                have HB1 := hid hb
                clear hb
                go_wp2_with fail
                refine (CC.out _).mono ?_
                rintro e w2 ⟨rfl, q, hw2⟩
                have HB2 : Hid (Below w.heap.size w w2) := hid (by rw [hw2]; exact below_drewN HB1.out q)
                clear hw2
                go_wp2_with fail
                refine (CX.out _ (HE.out.below HB2.out hsz)).mono ?_
                rintro e w3 ⟨rfl, hb3⟩
                have HB3 := hid (HB2.out.trans (hb3.mono HB2.out.size))
                clear hb3
                go_wp2_with fail
                refine (CZ.out _ (HE.out.below HB3.out hsz)).mono ?_
                rintro e w4 ⟨rfl, hb4⟩
                have HB4 := hid (HB3.out.trans (hb4.mono HB3.out.size))
                clear hb4
                go_wp2
                go_ret2
                exact ⟨rfl, HB4.out⟩
          · have hr : R = (spanN (a + 1) z, 0) := by rw [← HZ2.out, if_neg (by omega)]
            subst hr
            clear HZ2
            have hi1 : ¬ (z : Int) < (a : Int) + 1 := by omega
            have hi2 : ¬ (n : Int) < (z : Int) := by omega
            have cS := hid (fun w => span_any a z (by omega) (by omega) w)
            cases d
            all_goals
              go_enter Tryd.func26, Tryd.ntmps26
              go_wp2_with fail
              refine C.out.mono ?_
              rintro e w1 ⟨rfl, hb⟩
              have HB1 := hid hb
              clear hb
              go_wp2_with fail
              refine (CC.out _).mono ?_
              rintro e w2 ⟨rfl, q, hw2⟩
              have HB2 : Hid (Below w.heap.size w w2) := hid (by rw [hw2]; exact below_drewN HB1.out q)
              clear hw2
              go_wp2_with fail
              refine (CX.out _ (HE.out.below HB2.out hsz)).mono ?_
              rintro e w3 ⟨rfl, hb3⟩
              have HB3 := hid (HB2.out.trans (hb3.mono HB2.out.size))
              clear hb3
              go_wp2_with fail
              refine (CZ.out _ (HE.out.below HB3.out hsz)).mono ?_
              rintro e w4 ⟨rfl, hb4⟩
              have HB4 := hid (HB3.out.trans (hb4.mono HB3.out.size))
              clear hb4
              go_wp2_with fail
              refine (cS.out _).mono ?_
              rintro e w5 ⟨rfl, q5, hw5⟩
              have HB5 : Hid (Below w.heap.size w w5) := hid (by rw [hw5]; exact below_drewN HB4.out q5)
              clear hw5
              go_wp2
              go_ret2
              exact ⟨rfl, HB5.out⟩
      cases d with
      | true =>
        refine key y (hid CY.out) (hid ?_) hyl
        rw [← HR.out]
        simp
      | false =>
        refine key (a + 1) (hid fun w hE => ?_) (hid ?_) hxl
        · have h := CX.out w hE
          rw [hca, decide_eq_true (show a + 1 ≠ 0 by omega)]
          exact h
        · rw [← HR.out]
          simp
end Go.Proofs.YtamdjgadbingjaaDoor
