/-
  The specification's functions of times of the week: Valid, Sound, Usable, Fits, meet, Between, Overlap, Before. Conditions: the starts and lengths are numbers of 64 bits.
  The name of a day by the specification (Weekday), and when a slot begins (Clock): the program's and the specification's. Conditions: the table of the days' names holds what its text lays.
  Times and rooms as data. No program.
  Natural order of strings as a function, and that it is a total order: plain mathematics. No program, no conditions.
-/
import Derived.Test.YtnpfmoalgphkcaaGreatDoorVA08
import Derived.Test.YtnpfmoalgphkcaaGreatDoorVA11
import Derived.Test.YtnpfmoalgphkcaaGreatDoorVA01
import Derived.Lib.Bytealg
set_option linter.unusedVariables false
namespace Go.Proofs.YtnpfmoalgphkcaaGreatDoor
open Go Go.Proofs Go.RowKit Go.Lib

set_option maxHeartbeats 8000000 in
theorem rgvalid_any (d s b m : Int) (w : World) : Calls Tryz.prog 66 #[.agg #[.int .i64 d, .int .i64 s, .int .i64 b, .int .i64 m]] w (Says (.int .i64 (if gridB d s b m = true then 0 else 3)) w) := by
  unfold Says
  by_cases h0 : d < 1
  · have h0d : decide (d < 1) = true := decide_eq_true h0
    rw [show gridB d s b m = false from decide_eq_false (fun h => by obtain ⟨a1, a2, a3, a4, a5⟩ := h; omega), if_neg (by simp)]
    have HK := hid (K1.first w d s b m 24)
    go_enter Tryz.func66, Tryz.ntmps66
    go_wp2
    go_ret
    exact ⟨rfl, HK.out.b⟩
  · have h0d : decide (d < 1) = false := decide_eq_false h0
    by_cases h1 : 7 < d
    · have h1d : decide (7 < d) = true := decide_eq_true h1
      rw [show gridB d s b m = false from decide_eq_false (fun h => by obtain ⟨a1, a2, a3, a4, a5⟩ := h; omega), if_neg (by simp)]
      have HK := hid (K1.first w d s b m 24)
      go_enter Tryz.func66, Tryz.ntmps66
      go_wp2
      go_ret
      exact ⟨rfl, HK.out.b⟩
    · have h1d : decide (7 < d) = false := decide_eq_false h1
      by_cases h2 : s < 1
      · have h2d : decide (s < 1) = true := decide_eq_true h2
        rw [show gridB d s b m = false from decide_eq_false (fun h => by obtain ⟨a1, a2, a3, a4, a5⟩ := h; omega), if_neg (by simp)]
        have HK := hid (K1.first w d s b m 24)
        go_enter Tryz.func66, Tryz.ntmps66
        go_wp2
        go_ret
        exact ⟨rfl, HK.out.b⟩
      · have h2d : decide (s < 1) = false := decide_eq_false h2
        by_cases h3 : 24 < s
        · have h3d : decide (24 < s) = true := decide_eq_true h3
          rw [show gridB d s b m = false from decide_eq_false (fun h => by obtain ⟨a1, a2, a3, a4, a5⟩ := h; omega), if_neg (by simp)]
          have HK := hid (K1.first w d s b m 24)
          go_enter Tryz.func66, Tryz.ntmps66
          go_wp2
          go_ret
          exact ⟨rfl, HK.out.b⟩
        · have h3d : decide (24 < s) = false := decide_eq_false h3
          by_cases h4 : b < 0
          · have h4d : decide (b < 0) = true := decide_eq_true h4
            rw [show gridB d s b m = false from decide_eq_false (fun h => by obtain ⟨a1, a2, a3, a4, a5⟩ := h; omega), if_neg (by simp)]
            have HK := hid (K1.first w d s b m 24)
            go_enter Tryz.func66, Tryz.ntmps66
            go_wp2
            go_ret
            exact ⟨rfl, HK.out.b⟩
          · have h4d : decide (b < 0) = false := decide_eq_false h4
            by_cases h5 : 1439 < b
            · have h5d : decide (1439 < b) = true := decide_eq_true h5
              rw [show gridB d s b m = false from decide_eq_false (fun h => by obtain ⟨a1, a2, a3, a4, a5⟩ := h; omega), if_neg (by simp)]
              have HK := hid (K1.first w d s b m 24)
              go_enter Tryz.func66, Tryz.ntmps66
              go_wp2
              go_ret
              exact ⟨rfl, HK.out.b⟩
            · have h5d : decide (1439 < b) = false := decide_eq_false h5
              by_cases h6 : m < 5
              · have h6d : decide (m < 5) = true := decide_eq_true h6
                rw [show gridB d s b m = false from decide_eq_false (fun h => by obtain ⟨a1, a2, a3, a4, a5⟩ := h; omega), if_neg (by simp)]
                have HK := hid (K1.first w d s b m 24)
                go_enter Tryz.func66, Tryz.ntmps66
                go_wp2
                go_ret
                exact ⟨rfl, HK.out.b⟩
              · have h6d : decide (m < 5) = false := decide_eq_false h6
                by_cases h7 : 120 < m
                · have h7d : decide (120 < m) = true := decide_eq_true h7
                  rw [show gridB d s b m = false from decide_eq_false (fun h => by obtain ⟨a1, a2, a3, a4, a5⟩ := h; omega), if_neg (by simp)]
                  have HK := hid (K1.first w d s b m 24)
                  go_enter Tryz.func66, Tryz.ntmps66
                  go_wp2
                  go_ret
                  exact ⟨rfl, HK.out.b⟩
                · have h7d : decide (120 < m) = false := decide_eq_false h7
                  by_cases h8 : 1440 < b + s * m
                  · have h8d : decide (1440 < b + s * m) = true := decide_eq_true h8
                    have hm := mul_in (q := s) (m := m) (by omega) (by omega) (by omega) (by omega)
                    have e1 : IntKind.i64.wrap (s * m) = s * m := IntWalk.i64_in _ (by omega)
                    have e2 : IntKind.i64.wrap (b + s * m) = b + s * m := IntWalk.i64_in _ (by omega)
                    rw [show gridB d s b m = false from decide_eq_false (fun h => by obtain ⟨a1, a2, a3, a4, a5⟩ := h; omega), if_neg (by simp)]
                    skip
                    clear hm
                    have HK := hid (K1.first w d s b m 24)
                    go_enter Tryz.func66, Tryz.ntmps66
                    go_wp2
                    go_ret
                    exact ⟨rfl, HK.out.b⟩
                  · have h8d : decide (1440 < b + s * m) = false := decide_eq_false h8
                    have hm := mul_in (q := s) (m := m) (by omega) (by omega) (by omega) (by omega)
                    have e1 : IntKind.i64.wrap (s * m) = s * m := IntWalk.i64_in _ (by omega)
                    have e2 : IntKind.i64.wrap (b + s * m) = b + s * m := IntWalk.i64_in _ (by omega)
                    rw [show gridB d s b m = true from decide_eq_true ⟨by omega, by omega, by omega, by omega, by omega⟩, if_pos rfl]
                    skip
                    clear hm
                    have HK := hid (K1.first w d s b m 24)
                    go_enter Tryz.func66, Tryz.ntmps66
                    go_wp2
                    go_ret
                    exact ⟨rfl, HK.out.b⟩
set_option maxHeartbeats 8000000 in
theorem rsound_any (k y t l : Int) (w : World) : Calls Tryz.prog 69 #[.agg #[.int .i64 k, .int .i64 y, .int .i64 t, .int .i64 l]] w (Says (.bool (soundB k y t l)) w) := by
  have cV := fun w => rvalid_any k 20 w
  unfold Says
  cases hv : validM k 20 with
  | false =>
    rw [hv] at cV
    rw [sound_no (fun h => by have := h.1; rw [hv] at this; simp at this)]
    clear hv
    have HK := hid (K1.first w k y t l 26)
    go_enter Tryz.func69, Tryz.ntmps69
    go_wp2_with fail
    refine (cV _).mono ?_
    rintro e w1 ⟨rfl, q, hq⟩
    have hk := HK.out.next (show Below _ _ w1 by rw [hq]; exact below_drewN (Below.refl _ _) q)
    clear hq HK
    obtain ⟨⟨x0, x1, x2, x3, _⟩, _⟩ := id hk
    go_wp2
    go_ret
    exact ⟨rfl, hk.b⟩
  | true =>
    rw [hv] at cV
    by_cases h0 : 0 ≤ y
    · have h0d : decide (0 ≤ y) = true := decide_eq_true h0
      by_cases h1 : y ≤ 6
      · have h1d : decide (y ≤ 6) = true := decide_eq_true h1
        by_cases h2 : 0 ≤ t
        · have h2d : decide (0 ≤ t) = true := decide_eq_true h2
          by_cases h3 : 1 ≤ l
          · have h3d : decide (1 ≤ l) = true := decide_eq_true h3
            by_cases h4 : t ≤ 24
            · have h4d : decide (t ≤ 24) = true := decide_eq_true h4
              by_cases h5 : l ≤ 24
              · have h5d : decide (l ≤ 24) = true := decide_eq_true h5
                by_cases h6 : t + l ≤ 24
                · have h6d : decide (t + l ≤ 24) = true := decide_eq_true h6
                  rw [sound_yes ⟨hv, by omega, by omega, by omega, by omega⟩]
                  clear hv
                  have HK := hid (K1.first w k y t l 26)
                  go_enter Tryz.func69, Tryz.ntmps69
                  go_wp2_with fail
                  refine (cV _).mono ?_
                  rintro e w1 ⟨rfl, q, hq⟩
                  have hk := HK.out.next (show Below _ _ w1 by rw [hq]; exact below_drewN (Below.refl _ _) q)
                  clear hq HK
                  obtain ⟨⟨x0, x1, x2, x3, _⟩, _⟩ := id hk
                  go_wp2
                  go_ret
                  exact ⟨rfl, hk.b⟩
                · have h6d : decide (t + l ≤ 24) = false := decide_eq_false h6
                  rw [sound_no (fun h => by obtain ⟨a1, a2, a3, a4, a5⟩ := h; omega)]
                  clear hv
                  have HK := hid (K1.first w k y t l 26)
                  go_enter Tryz.func69, Tryz.ntmps69
                  go_wp2_with fail
                  refine (cV _).mono ?_
                  rintro e w1 ⟨rfl, q, hq⟩
                  have hk := HK.out.next (show Below _ _ w1 by rw [hq]; exact below_drewN (Below.refl _ _) q)
                  clear hq HK
                  obtain ⟨⟨x0, x1, x2, x3, _⟩, _⟩ := id hk
                  go_wp2
                  go_ret
                  exact ⟨rfl, hk.b⟩
              · have h5d : decide (l ≤ 24) = false := decide_eq_false h5
                rw [sound_no (fun h => by obtain ⟨a1, a2, a3, a4, a5⟩ := h; omega)]
                clear hv
                have HK := hid (K1.first w k y t l 26)
                go_enter Tryz.func69, Tryz.ntmps69
                go_wp2_with fail
                refine (cV _).mono ?_
                rintro e w1 ⟨rfl, q, hq⟩
                have hk := HK.out.next (show Below _ _ w1 by rw [hq]; exact below_drewN (Below.refl _ _) q)
                clear hq HK
                obtain ⟨⟨x0, x1, x2, x3, _⟩, _⟩ := id hk
                go_wp2
                go_ret
                exact ⟨rfl, hk.b⟩
            · have h4d : decide (t ≤ 24) = false := decide_eq_false h4
              rw [sound_no (fun h => by obtain ⟨a1, a2, a3, a4, a5⟩ := h; omega)]
              clear hv
              have HK := hid (K1.first w k y t l 26)
              go_enter Tryz.func69, Tryz.ntmps69
              go_wp2_with fail
              refine (cV _).mono ?_
              rintro e w1 ⟨rfl, q, hq⟩
              have hk := HK.out.next (show Below _ _ w1 by rw [hq]; exact below_drewN (Below.refl _ _) q)
              clear hq HK
              obtain ⟨⟨x0, x1, x2, x3, _⟩, _⟩ := id hk
              go_wp2
              go_ret
              exact ⟨rfl, hk.b⟩
          · have h3d : decide (1 ≤ l) = false := decide_eq_false h3
            rw [sound_no (fun h => by obtain ⟨a1, a2, a3, a4, a5⟩ := h; omega)]
            clear hv
            have HK := hid (K1.first w k y t l 26)
            go_enter Tryz.func69, Tryz.ntmps69
            go_wp2_with fail
            refine (cV _).mono ?_
            rintro e w1 ⟨rfl, q, hq⟩
            have hk := HK.out.next (show Below _ _ w1 by rw [hq]; exact below_drewN (Below.refl _ _) q)
            clear hq HK
            obtain ⟨⟨x0, x1, x2, x3, _⟩, _⟩ := id hk
            go_wp2
            go_ret
            exact ⟨rfl, hk.b⟩
        · have h2d : decide (0 ≤ t) = false := decide_eq_false h2
          rw [sound_no (fun h => by obtain ⟨a1, a2, a3, a4, a5⟩ := h; omega)]
          clear hv
          have HK := hid (K1.first w k y t l 26)
          go_enter Tryz.func69, Tryz.ntmps69
          go_wp2_with fail
          refine (cV _).mono ?_
          rintro e w1 ⟨rfl, q, hq⟩
          have hk := HK.out.next (show Below _ _ w1 by rw [hq]; exact below_drewN (Below.refl _ _) q)
          clear hq HK
          obtain ⟨⟨x0, x1, x2, x3, _⟩, _⟩ := id hk
          go_wp2
          go_ret
          exact ⟨rfl, hk.b⟩
      · have h1d : decide (y ≤ 6) = false := decide_eq_false h1
        rw [sound_no (fun h => by obtain ⟨a1, a2, a3, a4, a5⟩ := h; omega)]
        clear hv
        have HK := hid (K1.first w k y t l 26)
        go_enter Tryz.func69, Tryz.ntmps69
        go_wp2_with fail
        refine (cV _).mono ?_
        rintro e w1 ⟨rfl, q, hq⟩
        have hk := HK.out.next (show Below _ _ w1 by rw [hq]; exact below_drewN (Below.refl _ _) q)
        clear hq HK
        obtain ⟨⟨x0, x1, x2, x3, _⟩, _⟩ := id hk
        go_wp2
        go_ret
        exact ⟨rfl, hk.b⟩
    · have h0d : decide (0 ≤ y) = false := decide_eq_false h0
      rw [sound_no (fun h => by obtain ⟨a1, a2, a3, a4, a5⟩ := h; omega)]
      clear hv
      have HK := hid (K1.first w k y t l 26)
      go_enter Tryz.func69, Tryz.ntmps69
      go_wp2_with fail
      refine (cV _).mono ?_
      rintro e w1 ⟨rfl, q, hq⟩
      have hk := HK.out.next (show Below _ _ w1 by rw [hq]; exact below_drewN (Below.refl _ _) q)
      clear hq HK
      obtain ⟨⟨x0, x1, x2, x3, _⟩, _⟩ := id hk
      go_wp2
      go_ret
      exact ⟨rfl, hk.b⟩
set_option maxHeartbeats 4000000 in
theorem usable_any (d s b m n : Int) (w : World) : Calls Tryz.prog 42 #[.agg #[.int .i64 d, .int .i64 s, .int .i64 b, .int .i64 m], .int .i64 n] w (Says (.bool (frameB d s b m n)) w) := by
  have cG := fun w => rgvalid_any d s b m w
  unfold Says at cG ⊢
  cases hg : gridB d s b m with
  | false =>
    rw [hg, if_neg (by simp)] at cG
    rw [frame_no (fun h => by rw [hg] at h; exact absurd h.1 (by simp))]
    clear hg
    have HK := hid (K1.first w d s b m 24)
    go_enter Tryz.func42, Tryz.ntmps42
    go_wp2_with fail
    refine (cG _).mono ?_
    rintro e w1 ⟨rfl, hb⟩
    have hk := HK.out.next hb
    clear hb HK
    go_wp2
    go_ret
    exact ⟨rfl, hk.b⟩
  | true =>
    rw [hg, if_pos rfl] at cG
    by_cases h0 : 1 ≤ n
    · have h0d : decide (1 ≤ n) = true := decide_eq_true h0
      by_cases h1 : n ≤ 20
      · have h1d : decide (n ≤ 20) = true := decide_eq_true h1
        rw [show frameB d s b m n = true from decide_eq_true ⟨hg, h0, h1⟩]
        clear hg
        have HK := hid (K1.first w d s b m 24)
        go_enter Tryz.func42, Tryz.ntmps42
        go_wp2_with fail
        refine (cG _).mono ?_
        rintro e w1 ⟨rfl, hb⟩
        have hk := HK.out.next hb
        clear hb HK
        go_wp2
        go_ret
        exact ⟨rfl, hk.b⟩
      · have h1d : decide (n ≤ 20) = false := decide_eq_false h1
        rw [frame_no (fun h => by omega)]
        clear hg
        have HK := hid (K1.first w d s b m 24)
        go_enter Tryz.func42, Tryz.ntmps42
        go_wp2_with fail
        refine (cG _).mono ?_
        rintro e w1 ⟨rfl, hb⟩
        have hk := HK.out.next hb
        clear hb HK
        go_wp2
        go_ret
        exact ⟨rfl, hk.b⟩
    · have h0d : decide (1 ≤ n) = false := decide_eq_false h0
      rw [frame_no (fun h => by omega)]
      clear hg
      have HK := hid (K1.first w d s b m 24)
      go_enter Tryz.func42, Tryz.ntmps42
      go_wp2_with fail
      refine (cG _).mono ?_
      rintro e w1 ⟨rfl, hb⟩
      have hk := HK.out.next hb
      clear hb HK
      go_wp2
      go_ret
      exact ⟨rfl, hk.b⟩
set_option maxHeartbeats 8000000 in
set_option maxRecDepth 100000 in
theorem rfits_any (d s b m n k y t l : Int) (w : World) : Calls Tryz.prog 44 #[.agg #[.int .i64 d, .int .i64 s, .int .i64 b, .int .i64 m], .int .i64 n, .agg #[.int .i64 k, .int .i64 y, .int .i64 t, .int .i64 l]] w (Says (.int .i64 (fitsM d s b m n k y t l)) w) := by
  have cF := fun w => usable_any d s b m n w
  have cS := fun w => rsound_any k y t l w
  have cV := fun w => rvalid_any k n w
  unfold Says at cF cS ⊢
  cases hf : frameB d s b m n with
  | false =>
    rw [show fitsM d s b m n k y t l = 1 by unfold fitsM; rw [if_neg (by rw [hf]; simp)]]
    rw [hf] at cF
    clear hf cS cV
    have HK := hid (K2.first w d s b m k y t l 24 26)
    go_enter Tryz.func44, Tryz.ntmps44
    go_wp2_with fail
    refine (cF _).mono ?_
    rintro e w1 ⟨rfl, hb⟩
    have hk := HK.out.next hb
    clear hb HK
    obtain ⟨⟨x0, x1, x2, x3, _⟩, ⟨y0, y1, y2, y3, _⟩, _⟩ := id hk
    go_wp2
    go_ret
    exact ⟨rfl, hk.b⟩
  | true =>
    rw [hf] at cF
    cases hs : soundB k y t l with
    | false =>
      rw [fits_no hf (fun h => by rw [hs] at h; exact absurd h.1 (by simp))]
      rw [hs] at cS
      clear hf hs cV
      have HK := hid (K2.first w d s b m k y t l 24 26)
      go_enter Tryz.func44, Tryz.ntmps44
      go_wp2_with fail
      refine (cF _).mono ?_
      rintro e w1 ⟨rfl, hb⟩
      have hk := HK.out.next hb
      clear hb HK
      obtain ⟨⟨x0, x1, x2, x3, _⟩, ⟨y0, y1, y2, y3, _⟩, _⟩ := id hk
      go_wp2_with fail
      refine (cS _).mono ?_
      rintro e w1 ⟨rfl, hb⟩
      have hk := hk.next hb
      clear hb
      obtain ⟨⟨x0, x1, x2, x3, _⟩, ⟨y0, y1, y2, y3, _⟩, _⟩ := id hk
      go_wp2
      go_ret
      exact ⟨rfl, hk.b⟩
    | true =>
      rw [hs] at cS
      obtain ⟨s1, s2, s3, s4, s5⟩ := sound_of hs
      cases hv : validM k n with
      | false =>
        rw [fits_no hf (fun h => by rw [hv] at h; exact absurd h.2.1 (by simp))]
        rw [hv] at cV
        clear hf hs hv s1
        have HK := hid (K2.first w d s b m k y t l 24 26)
        go_enter Tryz.func44, Tryz.ntmps44
        go_wp2_with fail
        refine (cF _).mono ?_
        rintro e w1 ⟨rfl, hb⟩
        have hk := HK.out.next hb
        clear hb HK
        obtain ⟨⟨x0, x1, x2, x3, _⟩, ⟨y0, y1, y2, y3, _⟩, _⟩ := id hk
        go_wp2_with fail
        refine (cS _).mono ?_
        rintro e w1 ⟨rfl, hb⟩
        have hk := hk.next hb
        clear hb
        obtain ⟨⟨x0, x1, x2, x3, _⟩, ⟨y0, y1, y2, y3, _⟩, _⟩ := id hk
        go_wp2_with fail
        refine (cV _).mono ?_
        rintro e w1 ⟨rfl, q, hq⟩
        have hk := hk.next (show Below _ _ w1 by rw [hq]; exact below_drewN (Below.refl _ _) q)
        clear hq
        obtain ⟨⟨x0, x1, x2, x3, _⟩, ⟨y0, y1, y2, y3, _⟩, _⟩ := id hk
        go_wp2
        go_ret
        exact ⟨rfl, hk.b⟩
      | true =>
        rw [hv] at cV
        by_cases hy : d ≤ y
        · have hyd : decide (d ≤ y) = true := decide_eq_true hy
          rw [fits_no hf (fun h => by omega)]
          clear hf hs hv s1
          have HK := hid (K2.first w d s b m k y t l 24 26)
          go_enter Tryz.func44, Tryz.ntmps44
          go_wp2_with fail
          refine (cF _).mono ?_
          rintro e w1 ⟨rfl, hb⟩
          have hk := HK.out.next hb
          clear hb HK
          obtain ⟨⟨x0, x1, x2, x3, _⟩, ⟨y0, y1, y2, y3, _⟩, _⟩ := id hk
          go_wp2_with fail
          refine (cS _).mono ?_
          rintro e w1 ⟨rfl, hb⟩
          have hk := hk.next hb
          clear hb
          obtain ⟨⟨x0, x1, x2, x3, _⟩, ⟨y0, y1, y2, y3, _⟩, _⟩ := id hk
          go_wp2_with fail
          refine (cV _).mono ?_
          rintro e w1 ⟨rfl, q, hq⟩
          have hk := hk.next (show Below _ _ w1 by rw [hq]; exact below_drewN (Below.refl _ _) q)
          clear hq
          obtain ⟨⟨x0, x1, x2, x3, _⟩, ⟨y0, y1, y2, y3, _⟩, _⟩ := id hk
          go_wp2
          go_ret
          exact ⟨rfl, hk.b⟩
        · have hyd : decide (d ≤ y) = false := decide_eq_false hy
          by_cases he : s < t + l
          · have hed : decide (s < t + l) = true := decide_eq_true he
            rw [fits_no hf (fun h => by omega)]
            clear hf hs hv s1
            have HK := hid (K2.first w d s b m k y t l 24 26)
            go_enter Tryz.func44, Tryz.ntmps44
            go_wp2_with fail
            refine (cF _).mono ?_
            rintro e w1 ⟨rfl, hb⟩
            have hk := HK.out.next hb
            clear hb HK
            obtain ⟨⟨x0, x1, x2, x3, _⟩, ⟨y0, y1, y2, y3, _⟩, _⟩ := id hk
            go_wp2_with fail
            refine (cS _).mono ?_
            rintro e w1 ⟨rfl, hb⟩
            have hk := hk.next hb
            clear hb
            obtain ⟨⟨x0, x1, x2, x3, _⟩, ⟨y0, y1, y2, y3, _⟩, _⟩ := id hk
            go_wp2_with fail
            refine (cV _).mono ?_
            rintro e w1 ⟨rfl, q, hq⟩
            have hk := hk.next (show Below _ _ w1 by rw [hq]; exact below_drewN (Below.refl _ _) q)
            clear hq
            obtain ⟨⟨x0, x1, x2, x3, _⟩, ⟨y0, y1, y2, y3, _⟩, _⟩ := id hk
            go_wp2
            go_ret
            exact ⟨rfl, hk.b⟩
          · have hed : decide (s < t + l) = false := decide_eq_false he
            rw [show fitsM d s b m n k y t l = 0 by unfold fitsM; rw [if_pos hf, if_pos ⟨hs, hv, by omega, by omega⟩]]
            clear hf hs hv s1
            have HK := hid (K2.first w d s b m k y t l 24 26)
            go_enter Tryz.func44, Tryz.ntmps44
            go_wp2_with fail
            refine (cF _).mono ?_
            rintro e w1 ⟨rfl, hb⟩
            have hk := HK.out.next hb
            clear hb HK
            obtain ⟨⟨x0, x1, x2, x3, _⟩, ⟨y0, y1, y2, y3, _⟩, _⟩ := id hk
            go_wp2_with fail
            refine (cS _).mono ?_
            rintro e w1 ⟨rfl, hb⟩
            have hk := hk.next hb
            clear hb
            obtain ⟨⟨x0, x1, x2, x3, _⟩, ⟨y0, y1, y2, y3, _⟩, _⟩ := id hk
            go_wp2_with fail
            refine (cV _).mono ?_
            rintro e w1 ⟨rfl, q, hq⟩
            have hk := hk.next (show Below _ _ w1 by rw [hq]; exact below_drewN (Below.refl _ _) q)
            clear hq
            obtain ⟨⟨x0, x1, x2, x3, _⟩, ⟨y0, y1, y2, y3, _⟩, _⟩ := id hk
            go_wp2
            go_ret
            exact ⟨rfl, hk.b⟩
end Go.Proofs.YtnpfmoalgphkcaaGreatDoor

set_option linter.unusedVariables false
namespace Go.Proofs.YtnpfmoalgphkcaaGreatDoor
open Go Go.Proofs Go.RowKit Go.Lib

def RDays (w : World) : Prop := ∀ (j : Nat) (v : Value), dayCells[j]? = some v → w.cell? ⟨1, j, none⟩ = some v
theorem RDays.below {w w' : World} (h : RDays w) {B : Nat} (hb : Below B w w') (hB : 9 < B) : RDays w' :=
  fun j v hj => (hb.cell (p := ⟨1, j, none⟩) (by show 1 < B; omega)).trans (h j v hj)
theorem RDays.at_ {w : World} (h : RDays w) (y : Nat) (hy : y < 7) : w.cell? ⟨1, y, none⟩ = some (.string (ba (dayS y))) := by
  refine h y _ ?_
  rcases (show y = 0 ∨ y = 1 ∨ y = 2 ∨ y = 3 ∨ y = 4 ∨ y = 5 ∨ y = 6 by omega) with rfl | rfl | rfl | rfl | rfl | rfl | rfl <;> rfl
end Go.Proofs.YtnpfmoalgphkcaaGreatDoor

set_option linter.unusedVariables false
namespace Go.Proofs.YtnpfmoalgphkcaaGreatDoor
open Go Go.Proofs Go.RowKit Go.Lib

abbrev TimeD := Int × Int × Int × Int
abbrev RoomD := Str × Str × Int × List Str × List TimeD
def timeVs (t : TimeD) : List Value := [.int .i64 t.1, .int .i64 t.2.1, .int .i64 t.2.2.1, .int .i64 t.2.2.2]
def timeV (t : TimeD) : Value := .agg #[.int .i64 t.1, .int .i64 t.2.1, .int .i64 t.2.2.1, .int .i64 t.2.2.2]
end Go.Proofs.YtnpfmoalgphkcaaGreatDoor

set_option linter.unusedVariables false
namespace Go.Proofs.YtnpfmoalgphkcaaGreatDoor.S3
open Go Go.Lib

abbrev Str := List UInt8
/-! ### elements -/
def dg (c : UInt8) : Bool := decide (48 ≤ c.toNat) && decide (c.toNat ≤ 57)
def runN (d : Bool) : Str → Nat
  | [] => 0
  | c :: r => if dg c = d then runN d r + 1 else 0
/-- The length of the first element. -/
def elemN : Str → Nat
  | [] => 0
  | c :: r => runN (dg c) r + 1
end Go.Proofs.YtnpfmoalgphkcaaGreatDoor.S3

