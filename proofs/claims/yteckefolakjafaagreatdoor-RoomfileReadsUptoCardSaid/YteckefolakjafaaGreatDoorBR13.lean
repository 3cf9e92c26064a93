/-
  The specification's functions of times of the week: Valid, Sound, Usable, Fits, meet, Between, Overlap, Before. Conditions: the starts and lengths are numbers of 64 bits.
  The name of a day by the specification (Weekday), and when a slot begins (Clock): the program's and the specification's. Conditions: the table of the days' names holds what its text lays.
  Times and rooms as data. No program.
  Natural order of strings as a function, and that it is a total order: plain mathematics. No program, no conditions.
-/
import Derived.Test.YteckefolakjafaaGreatDoorBR09
import Derived.Test.YteckefolakjafaaGreatDoorBR12
import Derived.Test.YteckefolakjafaaGreatDoorBR02
import Derived.Lib.Bytealg
set_option linter.unusedVariables false
namespace Go.Proofs.YteckefolakjafaaGreatDoor
open Go Go.Proofs Go.RowKit Go.Lib

set_option maxHeartbeats 8000000 in
theorem rgvalid_any (d s b m : Int) (w : World) : Calls Tryz.prog 49 #[.agg #[.int .i64 d, .int .i64 s, .int .i64 b, .int .i64 m]] w (Says (.int .i64 (if gridB d s b m = true then 0 else 3)) w) := by
  unfold Says
  by_cases h0 : d < 1
  · have h0d : decide (d < 1) = true := decide_eq_true h0
    rw [show gridB d s b m = false from decide_eq_false (fun h => by obtain ⟨a1, a2, a3, a4, a5⟩ := h; omega), if_neg (by simp)]
    have HK := hid (K1.first w d s b m 24)
    go_enter Tryz.func49, Tryz.ntmps49
    go_wp2
    go_ret
    exact ⟨rfl, HK.out.b⟩
  · have h0d : decide (d < 1) = false := decide_eq_false h0
    by_cases h1 : 7 < d
    · have h1d : decide (7 < d) = true := decide_eq_true h1
      rw [show gridB d s b m = false from decide_eq_false (fun h => by obtain ⟨a1, a2, a3, a4, a5⟩ := h; omega), if_neg (by simp)]
      have HK := hid (K1.first w d s b m 24)
      go_enter Tryz.func49, Tryz.ntmps49
      go_wp2
      go_ret
      exact ⟨rfl, HK.out.b⟩
    · have h1d : decide (7 < d) = false := decide_eq_false h1
      by_cases h2 : s < 1
      · have h2d : decide (s < 1) = true := decide_eq_true h2
        rw [show gridB d s b m = false from decide_eq_false (fun h => by obtain ⟨a1, a2, a3, a4, a5⟩ := h; omega), if_neg (by simp)]
        have HK := hid (K1.first w d s b m 24)
        go_enter Tryz.func49, Tryz.ntmps49
        go_wp2
        go_ret
        exact ⟨rfl, HK.out.b⟩
      · have h2d : decide (s < 1) = false := decide_eq_false h2
        by_cases h3 : 24 < s
        · have h3d : decide (24 < s) = true := decide_eq_true h3
          rw [show gridB d s b m = false from decide_eq_false (fun h => by obtain ⟨a1, a2, a3, a4, a5⟩ := h; omega), if_neg (by simp)]
          have HK := hid (K1.first w d s b m 24)
          go_enter Tryz.func49, Tryz.ntmps49
          go_wp2
          go_ret
          exact ⟨rfl, HK.out.b⟩
        · have h3d : decide (24 < s) = false := decide_eq_false h3
          by_cases h4 : b < 0
          · have h4d : decide (b < 0) = true := decide_eq_true h4
            rw [show gridB d s b m = false from decide_eq_false (fun h => by obtain ⟨a1, a2, a3, a4, a5⟩ := h; omega), if_neg (by simp)]
            have HK := hid (K1.first w d s b m 24)
            go_enter Tryz.func49, Tryz.ntmps49
            go_wp2
            go_ret
            exact ⟨rfl, HK.out.b⟩
          · have h4d : decide (b < 0) = false := decide_eq_false h4
            by_cases h5 : 1439 < b
            · have h5d : decide (1439 < b) = true := decide_eq_true h5
              rw [show gridB d s b m = false from decide_eq_false (fun h => by obtain ⟨a1, a2, a3, a4, a5⟩ := h; omega), if_neg (by simp)]
              have HK := hid (K1.first w d s b m 24)
              go_enter Tryz.func49, Tryz.ntmps49
              go_wp2
              go_ret
              exact ⟨rfl, HK.out.b⟩
            · have h5d : decide (1439 < b) = false := decide_eq_false h5
              by_cases h6 : m < 5
              · have h6d : decide (m < 5) = true := decide_eq_true h6
                rw [show gridB d s b m = false from decide_eq_false (fun h => by obtain ⟨a1, a2, a3, a4, a5⟩ := h; omega), if_neg (by simp)]
                have HK := hid (K1.first w d s b m 24)
                go_enter Tryz.func49, Tryz.ntmps49
                go_wp2
                go_ret
                exact ⟨rfl, HK.out.b⟩
              · have h6d : decide (m < 5) = false := decide_eq_false h6
                by_cases h7 : 120 < m
                · have h7d : decide (120 < m) = true := decide_eq_true h7
                  rw [show gridB d s b m = false from decide_eq_false (fun h => by obtain ⟨a1, a2, a3, a4, a5⟩ := h; omega), if_neg (by simp)]
                  have HK := hid (K1.first w d s b m 24)
                  go_enter Tryz.func49, Tryz.ntmps49
                  go_wp2
                  go_ret
                  exact ⟨rfl, HK.out.b⟩
                · have h7d : decide (120 < m) = false := decide_eq_false h7
                  by_cases h8 : 1440 < b + s * m
                  · have h8d : decide (1440 < b + s * m) = true := decide_eq_true h8
                    have hm := mul_in (q := s) (m := m) (by omega) (by omega) (by omega) (by omega)
                    have e1 : IntKind.i64.wrap (s * m) = s * m := IntWalk.i64_in _ (by omega)
                    have e2 : IntKind.i64.wrap (b + s * m) = b + s * m := IntWalk.i64_in _ (by omega)
                    rw [show gridB d s b m = false from decide_eq_false (fun h => by obtain ⟨a1, a2, a3, a4, a5⟩ := h; omega), if_neg (by simp)]
                    skip
                    clear hm
                    have HK := hid (K1.first w d s b m 24)
                    go_enter Tryz.func49, Tryz.ntmps49
                    go_wp2
                    go_ret
                    exact ⟨rfl, HK.out.b⟩
                  · have h8d : decide (1440 < b + s * m) = false := decide_eq_false h8
                    have hm := mul_in (q := s) (m := m) (by omega) (by omega) (by omega) (by omega)
                    have e1 : IntKind.i64.wrap (s * m) = s * m := IntWalk.i64_in _ (by omega)
                    have e2 : IntKind.i64.wrap (b + s * m) = b + s * m := IntWalk.i64_in _ (by omega)
                    rw [show gridB d s b m = true from decide_eq_true ⟨by omega, by omega, by omega, by omega, by omega⟩, if_pos rfl]
                    skip
                    clear hm
                    have HK := hid (K1.first w d s b m 24)
                    go_enter Tryz.func49, Tryz.ntmps49
                    go_wp2
                    go_ret
                    exact ⟨rfl, HK.out.b⟩
set_option maxHeartbeats 8000000 in
theorem rsound_any (k y t l : Int) (w : World) : Calls Tryz.prog 53 #[.agg #[.int .i64 k, .int .i64 y, .int .i64 t, .int .i64 l]] w (Says (.bool (soundB k y t l)) w) := by
  have cV := fun w => rvalid_any k 20 w
  unfold Says
  cases hv : validM k 20 with
  | false =>
    rw [hv] at cV
    rw [sound_no (fun h => by have := h.1; rw [hv] at this; simp at this)]
    clear hv
    have HK := hid (K1.first w k y t l 55)
    go_enter Tryz.func53, Tryz.ntmps53
    go_wp2_with fail
    refine (cV _).mono ?_
    rintro e w1 ⟨rfl, q, hq⟩
    have hk := HK.out.next (show Below _ _ w1 by rw [hq]; exact below_drewN (Below.refl _ _) q)
    clear hq HK
    obtain ⟨⟨x0, x1, x2, x3, _⟩, _⟩ := id hk
    go_wp2
    go_ret
    exact ⟨rfl, hk.b⟩
  | true =>
    rw [hv] at cV
    by_cases h0 : 0 ≤ y
    · have h0d : decide (0 ≤ y) = true := decide_eq_true h0
      by_cases h1 : y ≤ 6
      · have h1d : decide (y ≤ 6) = true := decide_eq_true h1
        by_cases h2 : 0 ≤ t
        · have h2d : decide (0 ≤ t) = true := decide_eq_true h2
          by_cases h3 : 1 ≤ l
          · have h3d : decide (1 ≤ l) = true := decide_eq_true h3
            by_cases h4 : t ≤ 24
            · have h4d : decide (t ≤ 24) = true := decide_eq_true h4
              by_cases h5 : l ≤ 24
              · have h5d : decide (l ≤ 24) = true := decide_eq_true h5
                by_cases h6 : t + l ≤ 24
                · have h6d : decide (t + l ≤ 24) = true := decide_eq_true h6
                  rw [sound_yes ⟨hv, by omega, by omega, by omega, by omega⟩]
                  clear hv
                  have HK := hid (K1.first w k y t l 55)
                  go_enter Tryz.func53, Tryz.ntmps53
                  go_wp2_with fail
                  refine (cV _).mono ?_
                  rintro e w1 ⟨rfl, q, hq⟩
                  have hk := HK.out.next (show Below _ _ w1 by rw [hq]; exact below_drewN (Below.refl _ _) q)
                  clear hq HK
                  obtain ⟨⟨x0, x1, x2, x3, _⟩, _⟩ := id hk
                  go_wp2
                  go_ret
                  exact ⟨rfl, hk.b⟩
                · have h6d : decide (t + l ≤ 24) = false := decide_eq_false h6
                  rw [sound_no (fun h => by obtain ⟨a1, a2, a3, a4, a5⟩ := h; omega)]
                  clear hv
                  have HK := hid (K1.first w k y t l 55)
                  go_enter Tryz.func53, Tryz.ntmps53
                  go_wp2_with fail
                  refine (cV _).mono ?_
                  rintro e w1 ⟨rfl, q, hq⟩
                  have hk := HK.out.next (show Below _ _ w1 by rw [hq]; exact below_drewN (Below.refl _ _) q)
                  clear hq HK
                  obtain ⟨⟨x0, x1, x2, x3, _⟩, _⟩ := id hk
                  go_wp2
                  go_ret
                  exact ⟨rfl, hk.b⟩
              · have h5d : decide (l ≤ 24) = false := decide_eq_false h5
                rw [sound_no (fun h => by obtain ⟨a1, a2, a3, a4, a5⟩ := h; omega)]
                clear hv
                have HK := hid (K1.first w k y t l 55)
                go_enter Tryz.func53, Tryz.ntmps53
                go_wp2_with fail
                refine (cV _).mono ?_
                rintro e w1 ⟨rfl, q, hq⟩
                have hk := HK.out.next (show Below _ _ w1 by rw [hq]; exact below_drewN (Below.refl _ _) q)
                clear hq HK
                obtain ⟨⟨x0, x1, x2, x3, _⟩, _⟩ := id hk
                go_wp2
                go_ret
                exact ⟨rfl, hk.b⟩
            · have h4d : decide (t ≤ 24) = false := decide_eq_false h4
              rw [sound_no (fun h => by obtain ⟨a1, a2, a3, a4, a5⟩ := h; omega)]
              clear hv
              have HK := hid (K1.first w k y t l 55)
              go_enter Tryz.func53, Tryz.ntmps53
              go_wp2_with fail
              refine (cV _).mono ?_
              rintro e w1 ⟨rfl, q, hq⟩
              have hk := HK.out.next (show Below _ _ w1 by rw [hq]; exact below_drewN (Below.refl _ _) q)
              clear hq HK
              obtain ⟨⟨x0, x1, x2, x3, _⟩, _⟩ := id hk
              go_wp2
              go_ret
              exact ⟨rfl, hk.b⟩
          · have h3d : decide (1 ≤ l) = false := decide_eq_false h3
            rw [sound_no (fun h => by obtain ⟨a1, a2, a3, a4, a5⟩ := h; omega)]
            clear hv
            have HK := hid (K1.first w k y t l 55)
            go_enter Tryz.func53, Tryz.ntmps53
            go_wp2_with fail
            refine (cV _).mono ?_
            rintro e w1 ⟨rfl, q, hq⟩
            have hk := HK.out.next (show Below _ _ w1 by rw [hq]; exact below_drewN (Below.refl _ _) q)
            clear hq HK
            obtain ⟨⟨x0, x1, x2, x3, _⟩, _⟩ := id hk
            go_wp2
            go_ret
            exact ⟨rfl, hk.b⟩
        · have h2d : decide (0 ≤ t) = false := decide_eq_false h2
          rw [sound_no (fun h => by obtain ⟨a1, a2, a3, a4, a5⟩ := h; omega)]
          clear hv
          have HK := hid (K1.first w k y t l 55)
          go_enter Tryz.func53, Tryz.ntmps53
          go_wp2_with fail
          refine (cV _).mono ?_
          rintro e w1 ⟨rfl, q, hq⟩
          have hk := HK.out.next (show Below _ _ w1 by rw [hq]; exact below_drewN (Below.refl _ _) q)
          clear hq HK
          obtain ⟨⟨x0, x1, x2, x3, _⟩, _⟩ := id hk
          go_wp2
          go_ret
          exact ⟨rfl, hk.b⟩
      · have h1d : decide (y ≤ 6) = false := decide_eq_false h1
        rw [sound_no (fun h => by obtain ⟨a1, a2, a3, a4, a5⟩ := h; omega)]
        clear hv
        have HK := hid (K1.first w k y t l 55)
        go_enter Tryz.func53, Tryz.ntmps53
        go_wp2_with fail
        refine (cV _).mono ?_
        rintro e w1 ⟨rfl, q, hq⟩
        have hk := HK.out.next (show Below _ _ w1 by rw [hq]; exact below_drewN (Below.refl _ _) q)
        clear hq HK
        obtain ⟨⟨x0, x1, x2, x3, _⟩, _⟩ := id hk
        go_wp2
        go_ret
        exact ⟨rfl, hk.b⟩
    · have h0d : decide (0 ≤ y) = false := decide_eq_false h0
      rw [sound_no (fun h => by obtain ⟨a1, a2, a3, a4, a5⟩ := h; omega)]
      clear hv
      have HK := hid (K1.first w k y t l 55)
      go_enter Tryz.func53, Tryz.ntmps53
      go_wp2_with fail
      refine (cV _).mono ?_
      rintro e w1 ⟨rfl, q, hq⟩
      have hk := HK.out.next (show Below _ _ w1 by rw [hq]; exact below_drewN (Below.refl _ _) q)
      clear hq HK
      obtain ⟨⟨x0, x1, x2, x3, _⟩, _⟩ := id hk
      go_wp2
      go_ret
      exact ⟨rfl, hk.b⟩
set_option maxHeartbeats 4000000 in
theorem usable_any (d s b m n : Int) (w : World) : Calls Tryz.prog 24 #[.agg #[.int .i64 d, .int .i64 s, .int .i64 b, .int .i64 m], .int .i64 n] w (Says (.bool (frameB d s b m n)) w) := by
  have cG := fun w => rgvalid_any d s b m w
  unfold Says at cG ⊢
  cases hg : gridB d s b m with
  | false =>
    rw [hg, if_neg (by simp)] at cG
    rw [frame_no (fun h => by rw [hg] at h; exact absurd h.1 (by simp))]
    clear hg
    have HK := hid (K1.first w d s b m 24)
    go_enter Tryz.func24, Tryz.ntmps24
    go_wp2_with fail
    refine (cG _).mono ?_
    rintro e w1 ⟨rfl, hb⟩
    have hk := HK.out.next hb
    clear hb HK
    go_wp2
    go_ret
    exact ⟨rfl, hk.b⟩
  | true =>
    rw [hg, if_pos rfl] at cG
    by_cases h0 : 1 ≤ n
    · have h0d : decide (1 ≤ n) = true := decide_eq_true h0
      by_cases h1 : n ≤ 20
      · have h1d : decide (n ≤ 20) = true := decide_eq_true h1
        rw [show frameB d s b m n = true from decide_eq_true ⟨hg, h0, h1⟩]
        clear hg
        have HK := hid (K1.first w d s b m 24)
        go_enter Tryz.func24, Tryz.ntmps24
        go_wp2_with fail
        refine (cG _).mono ?_
        rintro e w1 ⟨rfl, hb⟩
        have hk := HK.out.next hb
        clear hb HK
        go_wp2
        go_ret
        exact ⟨rfl, hk.b⟩
      · have h1d : decide (n ≤ 20) = false := decide_eq_false h1
        rw [frame_no (fun h => by omega)]
        clear hg
        have HK := hid (K1.first w d s b m 24)
        go_enter Tryz.func24, Tryz.ntmps24
        go_wp2_with fail
        refine (cG _).mono ?_
        rintro e w1 ⟨rfl, hb⟩
        have hk := HK.out.next hb
        clear hb HK
        go_wp2
        go_ret
        exact ⟨rfl, hk.b⟩
    · have h0d : decide (1 ≤ n) = false := decide_eq_false h0
      rw [frame_no (fun h => by omega)]
      clear hg
      have HK := hid (K1.first w d s b m 24)
      go_enter Tryz.func24, Tryz.ntmps24
      go_wp2_with fail
      refine (cG _).mono ?_
      rintro e w1 ⟨rfl, hb⟩
      have hk := HK.out.next hb
      clear hb HK
      go_wp2
      go_ret
      exact ⟨rfl, hk.b⟩
set_option maxHeartbeats 8000000 in
set_option maxRecDepth 100000 in
theorem rfits_any (d s b m n k y t l : Int) (w : World) : Calls Tryz.prog 27 #[.agg #[.int .i64 d, .int .i64 s, .int .i64 b, .int .i64 m], .int .i64 n, .agg #[.int .i64 k, .int .i64 y, .int .i64 t, .int .i64 l]] w (Says (.int .i64 (fitsM d s b m n k y t l)) w) := by
  have cF := fun w => usable_any d s b m n w
  have cS := fun w => rsound_any k y t l w
  have cV := fun w => rvalid_any k n w
  unfold Says at cF cS ⊢
  cases hf : frameB d s b m n with
  | false =>
    rw [show fitsM d s b m n k y t l = 1 by unfold fitsM; rw [if_neg (by rw [hf]; simp)]]
    rw [hf] at cF
    clear hf cS cV
    have HK := hid (K2.first w d s b m k y t l 24 55)
    go_enter Tryz.func27, Tryz.ntmps27
    go_wp2_with fail
    refine (cF _).mono ?_
    rintro e w1 ⟨rfl, hb⟩
    have hk := HK.out.next hb
    clear hb HK
    obtain ⟨⟨x0, x1, x2, x3, _⟩, ⟨y0, y1, y2, y3, _⟩, _⟩ := id hk
    go_wp2
    go_ret
    exact ⟨rfl, hk.b⟩
  | true =>
    rw [hf] at cF
    cases hs : soundB k y t l with
    | false =>
      rw [fits_no hf (fun h => by rw [hs] at h; exact absurd h.1 (by simp))]
      rw [hs] at cS
      clear hf hs cV
      have HK := hid (K2.first w d s b m k y t l 24 55)
      go_enter Tryz.func27, Tryz.ntmps27
      go_wp2_with fail
      refine (cF _).mono ?_
      rintro e w1 ⟨rfl, hb⟩
      have hk := HK.out.next hb
      clear hb HK
      obtain ⟨⟨x0, x1, x2, x3, _⟩, ⟨y0, y1, y2, y3, _⟩, _⟩ := id hk
      go_wp2_with fail
      refine (cS _).mono ?_
      rintro e w1 ⟨rfl, hb⟩
      have hk := hk.next hb
      clear hb
      obtain ⟨⟨x0, x1, x2, x3, _⟩, ⟨y0, y1, y2, y3, _⟩, _⟩ := id hk
      go_wp2
      go_ret
      exact ⟨rfl, hk.b⟩
    | true =>
      rw [hs] at cS
      obtain ⟨s1, s2, s3, s4, s5⟩ := sound_of hs
      cases hv : validM k n with
      | false =>
        rw [fits_no hf (fun h => by rw [hv] at h; exact absurd h.2.1 (by simp))]
        rw [hv] at cV
        clear hf hs hv s1
        have HK := hid (K2.first w d s b m k y t l 24 55)
        go_enter Tryz.func27, Tryz.ntmps27
        go_wp2_with fail
        refine (cF _).mono ?_
        rintro e w1 ⟨rfl, hb⟩
        have hk := HK.out.next hb
        clear hb HK
        obtain ⟨⟨x0, x1, x2, x3, _⟩, ⟨y0, y1, y2, y3, _⟩, _⟩ := id hk
        go_wp2_with fail
        refine (cS _).mono ?_
        rintro e w1 ⟨rfl, hb⟩
        have hk := hk.next hb
        clear hb
        obtain ⟨⟨x0, x1, x2, x3, _⟩, ⟨y0, y1, y2, y3, _⟩, _⟩ := id hk
        go_wp2_with fail
        refine (cV _).mono ?_
        rintro e w1 ⟨rfl, q, hq⟩
        have hk := hk.next (show Below _ _ w1 by rw [hq]; exact below_drewN (Below.refl _ _) q)
        clear hq
        obtain ⟨⟨x0, x1, x2, x3, _⟩, ⟨y0, y1, y2, y3, _⟩, _⟩ := id hk
        go_wp2
        go_ret
        exact ⟨rfl, hk.b⟩
      | true =>
        rw [hv] at cV
        by_cases hy : d ≤ y
        · have hyd : decide (d ≤ y) = true := decide_eq_true hy
          rw [fits_no hf (fun h => by omega)]
          clear hf hs hv s1
          have HK := hid (K2.first w d s b m k y t l 24 55)
          go_enter Tryz.func27, Tryz.ntmps27
          go_wp2_with fail
          refine (cF _).mono ?_
          rintro e w1 ⟨rfl, hb⟩
          have hk := HK.out.next hb
          clear hb HK
          obtain ⟨⟨x0, x1, x2, x3, _⟩, ⟨y0, y1, y2, y3, _⟩, _⟩ := id hk
          go_wp2_with fail
          refine (cS _).mono ?_
          rintro e w1 ⟨rfl, hb⟩
          have hk := hk.next hb
          clear hb
          obtain ⟨⟨x0, x1, x2, x3, _⟩, ⟨y0, y1, y2, y3, _⟩, _⟩ := id hk
          go_wp2_with fail
          refine (cV _).mono ?_
          rintro e w1 ⟨rfl, q, hq⟩
          have hk := hk.next (show Below _ _ w1 by rw [hq]; exact below_drewN (Below.refl _ _) q)
          clear hq
          obtain ⟨⟨x0, x1, x2, x3, _⟩, ⟨y0, y1, y2, y3, _⟩, _⟩ := id hk
          go_wp2
          go_ret
          exact ⟨rfl, hk.b⟩
        · have hyd : decide (d ≤ y) = false := decide_eq_false hy
          by_cases he : s < t + l
          · have hed : decide (s < t + l) = true := decide_eq_true he
            rw [fits_no hf (fun h => by omega)]
            clear hf hs hv s1
            have HK := hid (K2.first w d s b m k y t l 24 55)
            go_enter Tryz.func27, Tryz.ntmps27
            go_wp2_with fail
            refine (cF _).mono ?_
            rintro e w1 ⟨rfl, hb⟩
            have hk := HK.out.next hb
            clear hb HK
            obtain ⟨⟨x0, x1, x2, x3, _⟩, ⟨y0, y1, y2, y3, _⟩, _⟩ := id hk
            go_wp2_with fail
            refine (cS _).mono ?_
            rintro e w1 ⟨rfl, hb⟩
            have hk := hk.next hb
            clear hb
            obtain ⟨⟨x0, x1, x2, x3, _⟩, ⟨y0, y1, y2, y3, _⟩, _⟩ := id hk
            go_wp2_with fail
            refine (cV _).mono ?_
            rintro e w1 ⟨rfl, q, hq⟩
            have hk := hk.next (show Below _ _ w1 by rw [hq]; exact below_drewN (Below.refl _ _) q)
            clear hq
            obtain ⟨⟨x0, x1, x2, x3, _⟩, ⟨y0, y1, y2, y3, _⟩, _⟩ := id hk
            go_wp2
            go_ret
            exact ⟨rfl, hk.b⟩
          · have hed : decide (s < t + l) = false := decide_eq_false he
            rw [show fitsM d s b m n k y t l = 0 by unfold fitsM; rw [if_pos hf, if_pos ⟨hs, hv, by omega, by omega⟩]]
            clear hf hs hv s1
            have HK := hid (K2.first w d s b m k y t l 24 55)
            go_enter Tryz.func27, Tryz.ntmps27
            go_wp2_with fail
            refine (cF _).mono ?_
            rintro e w1 ⟨rfl, hb⟩
            have hk := HK.out.next hb
            clear hb HK
            obtain ⟨⟨x0, x1, x2, x3, _⟩, ⟨y0, y1, y2, y3, _⟩, _⟩ := id hk
            go_wp2_with fail
            refine (cS _).mono ?_
            rintro e w1 ⟨rfl, hb⟩
            have hk := hk.next hb
            clear hb
            obtain ⟨⟨x0, x1, x2, x3, _⟩, ⟨y0, y1, y2, y3, _⟩, _⟩ := id hk
            go_wp2_with fail
            refine (cV _).mono ?_
            rintro e w1 ⟨rfl, q, hq⟩
            have hk := hk.next (show Below _ _ w1 by rw [hq]; exact below_drewN (Below.refl _ _) q)
            clear hq
            obtain ⟨⟨x0, x1, x2, x3, _⟩, ⟨y0, y1, y2, y3, _⟩, _⟩ := id hk
            go_wp2
            go_ret
            exact ⟨rfl, hk.b⟩
end Go.Proofs.YteckefolakjafaaGreatDoor

set_option linter.unusedVariables false
namespace Go.Proofs.YteckefolakjafaaGreatDoor
open Go Go.Proofs Go.RowKit Go.Lib

def RDays (w : World) : Prop := ∀ (j : Nat) (v : Value), dayCells[j]? = some v → w.cell? ⟨0, j, none⟩ = some v
theorem RDays.below {w w' : World} (h : RDays w) {B : Nat} (hb : Below B w w') (hB : 6 < B) : RDays w' :=
  fun j v hj => (hb.cell (p := ⟨0, j, none⟩) (by show 0 < B; omega)).trans (h j v hj)
theorem RDays.at_ {w : World} (h : RDays w) (y : Nat) (hy : y < 7) : w.cell? ⟨0, y, none⟩ = some (.string (ba (dayS y))) := by
  refine h y _ ?_
  rcases (show y = 0 ∨ y = 1 ∨ y = 2 ∨ y = 3 ∨ y = 4 ∨ y = 5 ∨ y = 6 by omega) with rfl | rfl | rfl | rfl | rfl | rfl | rfl <;> rfl
def wdayI (x : Str) : Int := match dayK x with | some k => (k : Int) | none => -1

set_option maxHeartbeats 4000000 in
set_option maxRecDepth 100000 in
theorem weekday_any (s : ByteArray) (w : World) (hsz : 6 < w.heap.size) (hT : RDays w) :
    Calls Tryz.prog 119 #[.string s] w fun e w' => e = .returned (.int .i64 (wdayI (lst s))) ∧ Below w.heap.size w w' := by
  obtain ⟨R, hR⟩ : ∃ R, wdayI (lst s) = R := ⟨_, rfl⟩
  have HR := hid hR
  have HT := hid hT
  rw [hR]
  clear hR hT
  go_enter Tryz.func119, Tryz.ntmps119
  go_wp2
  go_loopw [3] (fun iv wr => ∃ k : Nat, iv = .int .i64 (k : Int) ∧ k ≤ 7 ∧ Hid (∀ i, i < k → dayS i ≠ lst s) ∧ Hid (Below w.heap.size w wr)) (fun iv _ => 7 - (RowKit.intOf iv).toNat)
  case atStart => exact ⟨0, rfl, by omega, hid (fun i hi => absurd hi (by omega)), hid (Below.refl _ _)⟩
  case round =>
    obtain ⟨k, rfl, hk, hne, hB⟩ := hrel
    by_cases hlt : k < 7
    · have hltz : (k : Int) < 7 := by omega
      have hc := (HT.out.below hB.out hsz).at_ k hlt
      obtain ⟨T, hT⟩ : ∃ T, ba (dayS k) = T := ⟨_, rfl⟩
      have HTW : Hid (lst T = dayS k) := hid (by rw [← hT]; rfl)
      rw [hT] at hc
      clear hT
      by_cases hw : lst T = lst s
      · have hr : R = (k : Int) := by
          rw [← HR.out]
          unfold wdayI
          rw [dayK_of hlt (HTW.out.symm.trans hw)]
        subst hr
        have he := toListEq hw
        clear hw HR
        go_wp2
        go_ret
        exact ⟨rfl, hB.out⟩
      · have hnx : Hid (∀ i, i < k + 1 → dayS i ≠ lst s) := hid (fun i hi => by
          rcases Nat.lt_or_ge i k with h | h
          · exact hne.out i h
          · obtain rfl : i = k := by omega
            exact fun e => hw (HTW.out.trans e))
        have he := toListNe hw
        clear hw
        go_wp2
        go_roundw
        case rel => exact ⟨k + 1, by go_num, by omega, hnx, hid hB.out⟩
        case measure => simp [RowKit.intOf]; omega
    · obtain rfl : k = 7 := by omega
      have hr : R = -1 := by
        rw [← HR.out]
        unfold wdayI
        rw [dayK_none hne.out]
      subst hr
      go_wp2
      go_ret
      exact ⟨rfl, hB.out⟩
theorem clock_num {b q m : Int} (h1 : 0 ≤ b + q * m) (h2 : b + q * m ≤ 1440) : ∃ H R : Int, Int.tdiv (b + q * m) 60 = H ∧ Int.tmod (b + q * m) 60 = R ∧ 0 ≤ H ∧ H ≤ 24 ∧ 0 ≤ R ∧ R < 60 := by
  refine ⟨_, _, rfl, rfl, ?_⟩
  rw [Int.tdiv_eq_ediv_of_nonneg h1, Int.tmod_eq_emod_of_nonneg h1]
  omega
def ClockOut (r : Int × Int × Int) (w : World) (e : Ending) (w' : World) : Prop := e = .returned (.tuple #[.int .i64 r.1, .int .i64 r.2.1, .int .i64 r.2.2]) ∧ Below w.heap.size w w'
theorem mul_lt {q s m : Int} (h1 : q ≤ s) (h2 : 0 ≤ m) : q * m ≤ s * m := Int.mul_le_mul_of_nonneg_right h1 h2
end Go.Proofs.YteckefolakjafaaGreatDoor

set_option linter.unusedVariables false
namespace Go.Proofs.YteckefolakjafaaGreatDoor
open Go Go.Proofs Go.RowKit Go.Lib

abbrev TimeD := Int × Int × Int × Int
abbrev RoomD := Str × Str × Int × List Str × List TimeD
def timeVs (t : TimeD) : List Value := [.int .i64 t.1, .int .i64 t.2.1, .int .i64 t.2.2.1, .int .i64 t.2.2.2]
def timeV (t : TimeD) : Value := .agg #[.int .i64 t.1, .int .i64 t.2.1, .int .i64 t.2.2.1, .int .i64 t.2.2.2]
end Go.Proofs.YteckefolakjafaaGreatDoor

set_option linter.unusedVariables false
namespace Go.Proofs.YteckefolakjafaaGreatDoor.S3
open Go Go.Lib

abbrev Str := List UInt8
/-- A comparison that orders. -/
structure Tot {α : Type} (c : α → α → Int) : Prop where
  rng : ∀ a b, c a b = -1 ∨ c a b = 0 ∨ c a b = 1
  swap : ∀ a b, c b a = - c a b
  trans : ∀ a b d, c a b ≤ 0 → c b d ≤ 0 → c a d ≤ 0
theorem Tot.self {α : Type} {c : α → α → Int} (h : Tot c) (a : α) : c a a = 0 := by
  have := h.swap a a
  omega
theorem Tot.zero_left {α : Type} {c : α → α → Int} (h : Tot c) {a b : α} (d : α) (e : c a b = 0) : c a d = c b d := by
  have e' := h.swap a b
  have r1 := h.rng a d
  have r2 := h.rng b d
  have s1 := h.swap a d
  have s2 := h.swap b d
  have t1 := h.trans a b d (by omega)
  have t2 := h.trans b a d (by omega)
  have t3 := fun x => h.trans d a b x (by omega)
  have t4 := fun x => h.trans d b a x (by omega)
  rcases r1 with r1 | r1 | r1 <;> rcases r2 with r2 | r2 | r2 <;> first | omega | (have := t1 (by omega); omega) | (have := t2 (by omega); omega) | (have := t3 (by omega); omega) | (have := t4 (by omega); omega)
def orC {α : Type} (c1 c2 : α → α → Int) (a b : α) : Int := if c1 a b = 0 then c2 a b else c1 a b
theorem Tot.or {α : Type} {c1 c2 : α → α → Int} (h1 : Tot c1) (h2 : Tot c2) : Tot (orC c1 c2) := by
  refine ⟨fun a b => ?_, fun a b => ?_, fun a b d => ?_⟩
  · unfold orC
    split
    · exact h2.rng a b
    · exact h1.rng a b
  · unfold orC
    have := h1.swap a b
    by_cases e : c1 a b = 0
    · rw [if_pos e, if_pos (by omega)]; exact h2.swap a b
    · rw [if_neg e, if_neg (by omega)]; exact this
  · unfold orC
    have s1 := h1.swap a b
    by_cases e : c1 a b = 0
    · have z := h1.zero_left d e
      rw [if_pos e, z]
      split
      · exact h2.trans a b d
      · exact fun _ x => x
    · rw [if_neg e]
      by_cases e2 : c1 b d = 0
      · have z := h1.zero_left a e2
        have s2 := h1.swap a d
        intro x _
        rw [if_neg (by omega)]
        omega
      · rw [if_neg e2]
        intro x y
        have t := h1.trans a b d x y
        have s3 := h1.swap a d
        have s4 := h1.swap b d
        by_cases e3 : c1 a d = 0
        · have := h1.zero_left b e3
          omega
        · rw [if_neg e3]; exact t
theorem Tot.on {α β : Type} {c : α → α → Int} (h : Tot c) (f : β → α) : Tot (fun a b => c (f a) (f b)) :=
  ⟨fun _ _ => h.rng _ _, fun _ _ => h.swap _ _, fun _ _ _ => h.trans _ _ _⟩
def lexC {α : Type} (c : α → α → Int) : List α → List α → Int
  | [], [] => 0
  | [], _ :: _ => -1
  | _ :: _, [] => 1
  | a :: aR, b :: bs => if c a b = 0 then lexC c aR bs else c a b
theorem lexC_rng {α : Type} {c : α → α → Int} (h : Tot c) : ∀ a b, lexC c a b = -1 ∨ lexC c a b = 0 ∨ lexC c a b = 1
  | [], [] => by simp [lexC]
  | [], _ :: _ => by simp [lexC]
  | _ :: _, [] => by simp [lexC]
  | a :: aR, b :: bs => by
    unfold lexC
    split
    · exact lexC_rng h aR bs
    · exact h.rng a b
theorem lexC_swap {α : Type} {c : α → α → Int} (h : Tot c) : ∀ a b, lexC c b a = - lexC c a b
  | [], [] => by simp [lexC]
  | [], _ :: _ => by simp [lexC]
  | _ :: _, [] => by simp [lexC]
  | a :: aR, b :: bs => by
    have := h.swap a b
    have ih := lexC_swap h aR bs
    unfold lexC
    by_cases e : c a b = 0
    · rw [if_pos e, if_pos (by omega)]; exact ih
    · rw [if_neg e, if_neg (by omega)]; exact this
theorem lexC_trans {α : Type} {c : α → α → Int} (h : Tot c) : ∀ a b d, lexC c a b ≤ 0 → lexC c b d ≤ 0 → lexC c a d ≤ 0
  | [], _, [], _, _ => by simp [lexC]
  | [], _, _ :: _, _, _ => by simp [lexC]
  | _ :: _, [], _, x, _ => by simp [lexC] at x
  | _ :: _, _ :: _, [], _, y => by simp [lexC] at y
  | a :: aR, b :: bs, d :: ds, x, y => by
    have ih := lexC_trans h aR bs ds
    unfold lexC at x y ⊢
    have s1 := h.swap a b
    have s2 := h.swap b d
    have s3 := h.swap a d
    by_cases e : c a b = 0
    · have z := h.zero_left d e
      rw [if_pos e] at x
      rw [z]
      split at y
      · rename_i e2
        rw [if_pos e2]; exact ih x y
      · rename_i e2
        rw [if_neg e2]; exact y
    · rw [if_neg e] at x
      by_cases e2 : c b d = 0
      · have z := h.zero_left a e2
        rw [if_neg (by omega)]; omega
      · rw [if_neg e2] at y
        have t := h.trans a b d x y
        by_cases e3 : c a d = 0
        · have := h.zero_left b e3
          omega
        · rw [if_neg e3]; exact t
theorem Tot.lex {α : Type} {c : α → α → Int} (h : Tot c) : Tot (lexC c) := ⟨lexC_rng h, lexC_swap h, lexC_trans h⟩
def cmpI (a b : Int) : Int := if a < b then -1 else if b < a then 1 else 0
theorem cmpI_tot : Tot cmpI := by
  refine ⟨fun a b => ?_, fun a b => ?_, fun a b d => ?_⟩ <;> unfold cmpI <;> repeat' split
  all_goals first | omega | simp | skip
  all_goals first | omega | skip
def cmpB (a b : UInt8) : Int := cmpI a.toNat b.toNat
theorem compareBytes_lex : ∀ a b, compareBytes a b = lexC cmpB a b
  | [], [] => rfl
  | [], _ :: _ => rfl
  | _ :: _, [] => rfl
  | a :: aR, b :: bs => by
    unfold compareBytes lexC cmpB cmpI
    simp only [UInt8.lt_iff_toNat_lt]
    by_cases h1 : a.toNat < b.toNat
    · rw [if_pos h1]
      rw [if_neg (by rw [if_pos (by omega)]; decide), if_pos (by omega)]
    · rw [if_neg h1]
      by_cases h2 : b.toNat < a.toNat
      · rw [if_pos h2, if_neg (by rw [if_neg (by omega), if_pos (by omega)]; decide), if_neg (by omega), if_pos (by omega)]
      · rw [if_neg h2, if_pos (by rw [if_neg (by omega), if_neg (by omega)])]
        exact compareBytes_lex aR bs
theorem bytes_tot : Tot compareBytes := by
  have : compareBytes = lexC cmpB := by funext a b; exact compareBytes_lex a b
  rw [this]
  exact (cmpI_tot.on fun c : UInt8 => (c.toNat : Int)).lex
theorem bytes_eq : ∀ a b : Str, compareBytes a b = 0 → a = b
  | [], [], _ => rfl
  | [], _ :: _, h => by simp [compareBytes] at h
  | _ :: _, [], h => by simp [compareBytes] at h
  | a :: aR, b :: bs, h => by
    unfold compareBytes at h
    split at h
    · simp at h
    · split at h
      · simp at h
      · rename_i h1 h2
        rw [UInt8.lt_iff_toNat_lt] at h1 h2
        have : a = b := UInt8.toNat_inj.1 (by omega)
        rw [this, bytes_eq aR bs h]

/-! ### elements -/
def dg (c : UInt8) : Bool := decide (48 ≤ c.toNat) && decide (c.toNat ≤ 57)
def runN (d : Bool) : Str → Nat
  | [] => 0
  | c :: r => if dg c = d then runN d r + 1 else 0
theorem runN_le (d : Bool) : ∀ s, runN d s ≤ s.length
  | [] => Nat.le_refl _
  | c :: r => by
    unfold runN
    have := runN_le d r
    split <;> simp <;> omega
/-- The length of the first element. -/
def elemN : Str → Nat
  | [] => 0
  | c :: r => runN (dg c) r + 1
theorem elemN_le (s : Str) : elemN s ≤ s.length := by
  cases s with
  | nil => exact Nat.le_refl _
  | cons c r =>
    have := runN_le (dg c) r
    simp [elemN]; omega
theorem elemN_pos (s : Str) (h : s ≠ []) : 1 ≤ elemN s := by
  cases s with
  | nil => exact absurd rfl h
  | cons c r => simp [elemN]
def elemsF : Nat → Str → List Str
  | 0, _ => []
  | n + 1, s => if s = [] then [] else s.take (elemN s) :: elemsF n (s.drop (elemN s))
theorem elemsF_fuel : ∀ (n m : Nat) (s : Str), s.length ≤ n → s.length ≤ m → elemsF n s = elemsF m s
  | 0, 0, s, _, _ => rfl
  | 0, m + 1, s, h, _ => by
    have : s = [] := List.eq_nil_of_length_eq_zero (by omega)
    subst this
    simp [elemsF]
  | n + 1, 0, s, _, h => by
    have : s = [] := List.eq_nil_of_length_eq_zero (by omega)
    subst this
    simp [elemsF]
  | n + 1, m + 1, s, h1, h2 => by
    unfold elemsF
    split
    · rfl
    · rename_i h
      have := elemN_pos s h
      rw [elemsF_fuel n m _ (by rw [List.length_drop]; omega) (by rw [List.length_drop]; omega)]
/-- The elements of a string. -/
def elems (s : Str) : List Str := elemsF s.length s
theorem elems_nil : elems [] = [] := rfl
theorem elems_cons (s : Str) (h : s ≠ []) : elems s = s.take (elemN s) :: elems (s.drop (elemN s)) := by
  have hp := elemN_pos s h
  have hl := List.length_pos_iff.2 h
  unfold elems
  rw [show s.length = (s.length - 1) + 1 by omega]
  conv => lhs; unfold elemsF
  rw [if_neg h, elemsF_fuel (s.length - 1) (s.drop (elemN s)).length _ (by rw [List.length_drop]; omega) (Nat.le_refl _)]
def numS : Str → Bool
  | [] => false
  | c :: _ => dg c
def bareS (s : Str) : Str := s.dropWhile (fun c => c == 48)
def clsS (s : Str) : Int := if numS s then 0 else 1
def lenS (s : Str) : Int := if numS s then ((bareS s).length : Int) else 0
def keyS (s : Str) : Str := if numS s then bareS s else s
/-- Two elements compared. -/
def cmpE : Str → Str → Int := orC (fun a b => cmpI (clsS a) (clsS b)) (orC (fun a b => cmpI (lenS a) (lenS b)) (fun a b => compareBytes (keyS a) (keyS b)))
theorem cmpE_tot : Tot cmpE := (cmpI_tot.on clsS).or ((cmpI_tot.on lenS).or (bytes_tot.on keyS))
theorem cmpE_nums (a b : Str) (ha : numS a = true) (hb : numS b = true) : cmpE a b = if cmpI ((bareS a).length : Int) ((bareS b).length : Int) = 0 then compareBytes (bareS a) (bareS b) else cmpI ((bareS a).length : Int) ((bareS b).length : Int) := by
  unfold cmpE orC clsS lenS keyS
  simp [ha, hb, cmpI]
theorem cmpE_num (a b : Str) (ha : numS a = true) (hb : numS b = false) : cmpE a b = -1 := by
  unfold cmpE orC clsS
  simp [ha, hb, cmpI]
theorem cmpE_other (a b : Str) (ha : numS a = false) (hb : numS b = true) : cmpE a b = 1 := by
  unfold cmpE orC clsS
  simp [ha, hb, cmpI]
theorem cmpE_texts (a b : Str) (ha : numS a = false) (hb : numS b = false) : cmpE a b = compareBytes a b := by
  unfold cmpE orC clsS lenS keyS
  simp [ha, hb, cmpI]
/-- Natural order. -/
def cmpM : Str → Str → Int := orC (fun a b => lexC cmpE (elems a) (elems b)) compareBytes
theorem cmpM_tot : Tot cmpM := (cmpE_tot.lex.on elems).or bytes_tot
theorem cmpM_zero (a b : Str) : cmpM a b = 0 ↔ a = b := by
  constructor
  · intro h
    unfold cmpM orC at h
    split at h
    · exact bytes_eq a b h
    · rename_i h'; exact absurd h h'
  · rintro rfl
    exact cmpM_tot.self a
end Go.Proofs.YteckefolakjafaaGreatDoor.S3

