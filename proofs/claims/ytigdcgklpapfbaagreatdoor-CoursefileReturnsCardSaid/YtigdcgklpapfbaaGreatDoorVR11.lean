/-
  The specification's functions of times of the week: Valid, Sound, Usable, Fits, meet, Between, Overlap, Before. Conditions: the starts and lengths are numbers of 64 bits.
  Times and rooms as data. No program.
  Natural order of strings as a function, and that it is a total order: plain mathematics. No program, no conditions.
  Letters, digits, signs, and whether a string is a code: the program's functions and the reference's. Conditions: none.
  Whether a string is a code: the program's Valid and the reference's. Conditions: none.
  The first element of a string: the program's cutElement with the function value that tells where an element ends. Conditions: the string is not empty and fits into memory.
  Lists of strings in memory. No program beyond the types' facts, no conditions.
-/
import Derived.Test.YtigdcgklpapfbaaGreatDoorVR07
set_option linter.unusedVariables false
namespace Go.Proofs.YtigdcgklpapfbaaGreatDoor
open Go Go.Proofs Go.RowKit Go.Lib

set_option maxHeartbeats 8000000 in
theorem rgvalid_any (d s b m : Int) (w : World) : Calls Tryz.prog 44 #[.agg #[.int .i64 d, .int .i64 s, .int .i64 b, .int .i64 m]] w (Says (.int .i64 (if gridB d s b m = true then 0 else 3)) w) := by
  unfold Says
  by_cases h0 : d < 1
  · have h0d : decide (d < 1) = true := decide_eq_true h0
    rw [show gridB d s b m = false from decide_eq_false (fun h => by obtain ⟨a1, a2, a3, a4, a5⟩ := h; omega), if_neg (by simp)]
    have HK := hid (K1.first w d s b m 24)
    go_enter Tryz.func44, Tryz.ntmps44
    go_wp2
    go_ret
    exact ⟨rfl, HK.out.b⟩
  · have h0d : decide (d < 1) = false := decide_eq_false h0
    by_cases h1 : 7 < d
    · have h1d : decide (7 < d) = true := decide_eq_true h1
      rw [show gridB d s b m = false from decide_eq_false (fun h => by obtain ⟨a1, a2, a3, a4, a5⟩ := h; omega), if_neg (by simp)]
      have HK := hid (K1.first w d s b m 24)
      go_enter Tryz.func44, Tryz.ntmps44
      go_wp2
      go_ret
      exact ⟨rfl, HK.out.b⟩
    · have h1d : decide (7 < d) = false := decide_eq_false h1
      by_cases h2 : s < 1
      · have h2d : decide (s < 1) = true := decide_eq_true h2
        rw [show gridB d s b m = false from decide_eq_false (fun h => by obtain ⟨a1, a2, a3, a4, a5⟩ := h; omega), if_neg (by simp)]
        have HK := hid (K1.first w d s b m 24)
        go_enter Tryz.func44, Tryz.ntmps44
        go_wp2
        go_ret
        exact ⟨rfl, HK.out.b⟩
      · have h2d : decide (s < 1) = false := decide_eq_false h2
        by_cases h3 : 24 < s
        · have h3d : decide (24 < s) = true := decide_eq_true h3
          rw [show gridB d s b m = false from decide_eq_false (fun h => by obtain ⟨a1, a2, a3, a4, a5⟩ := h; omega), if_neg (by simp)]
          have HK := hid (K1.first w d s b m 24)
          go_enter Tryz.func44, Tryz.ntmps44
          go_wp2
          go_ret
          exact ⟨rfl, HK.out.b⟩
        · have h3d : decide (24 < s) = false := decide_eq_false h3
          by_cases h4 : b < 0
          · have h4d : decide (b < 0) = true := decide_eq_true h4
            rw [show gridB d s b m = false from decide_eq_false (fun h => by obtain ⟨a1, a2, a3, a4, a5⟩ := h; omega), if_neg (by simp)]
            have HK := hid (K1.first w d s b m 24)
            go_enter Tryz.func44, Tryz.ntmps44
            go_wp2
            go_ret
            exact ⟨rfl, HK.out.b⟩
          · have h4d : decide (b < 0) = false := decide_eq_false h4
            by_cases h5 : 1439 < b
            · have h5d : decide (1439 < b) = true := decide_eq_true h5
              rw [show gridB d s b m = false from decide_eq_false (fun h => by obtain ⟨a1, a2, a3, a4, a5⟩ := h; omega), if_neg (by simp)]
              have HK := hid (K1.first w d s b m 24)
              go_enter Tryz.func44, Tryz.ntmps44
              go_wp2
              go_ret
              exact ⟨rfl, HK.out.b⟩
            · have h5d : decide (1439 < b) = false := decide_eq_false h5
              by_cases h6 : m < 5
              · have h6d : decide (m < 5) = true := decide_eq_true h6
                rw [show gridB d s b m = false from decide_eq_false (fun h => by obtain ⟨a1, a2, a3, a4, a5⟩ := h; omega), if_neg (by simp)]
                have HK := hid (K1.first w d s b m 24)
                go_enter Tryz.func44, Tryz.ntmps44
                go_wp2
                go_ret
                exact ⟨rfl, HK.out.b⟩
              · have h6d : decide (m < 5) = false := decide_eq_false h6
                by_cases h7 : 120 < m
                · have h7d : decide (120 < m) = true := decide_eq_true h7
                  rw [show gridB d s b m = false from decide_eq_false (fun h => by obtain ⟨a1, a2, a3, a4, a5⟩ := h; omega), if_neg (by simp)]
                  have HK := hid (K1.first w d s b m 24)
                  go_enter Tryz.func44, Tryz.ntmps44
                  go_wp2
                  go_ret
                  exact ⟨rfl, HK.out.b⟩
                · have h7d : decide (120 < m) = false := decide_eq_false h7
                  by_cases h8 : 1440 < b + s * m
                  · have h8d : decide (1440 < b + s * m) = true := decide_eq_true h8
                    have hm := mul_in (q := s) (m := m) (by omega) (by omega) (by omega) (by omega)
                    have e1 : IntKind.i64.wrap (s * m) = s * m := IntWalk.i64_in _ (by omega)
                    have e2 : IntKind.i64.wrap (b + s * m) = b + s * m := IntWalk.i64_in _ (by omega)
                    rw [show gridB d s b m = false from decide_eq_false (fun h => by obtain ⟨a1, a2, a3, a4, a5⟩ := h; omega), if_neg (by simp)]
                    skip
                    clear hm
                    have HK := hid (K1.first w d s b m 24)
                    go_enter Tryz.func44, Tryz.ntmps44
                    go_wp2
                    go_ret
                    exact ⟨rfl, HK.out.b⟩
                  · have h8d : decide (1440 < b + s * m) = false := decide_eq_false h8
                    have hm := mul_in (q := s) (m := m) (by omega) (by omega) (by omega) (by omega)
                    have e1 : IntKind.i64.wrap (s * m) = s * m := IntWalk.i64_in _ (by omega)
                    have e2 : IntKind.i64.wrap (b + s * m) = b + s * m := IntWalk.i64_in _ (by omega)
                    rw [show gridB d s b m = true from decide_eq_true ⟨by omega, by omega, by omega, by omega, by omega⟩, if_pos rfl]
                    skip
                    clear hm
                    have HK := hid (K1.first w d s b m 24)
                    go_enter Tryz.func44, Tryz.ntmps44
                    go_wp2
                    go_ret
                    exact ⟨rfl, HK.out.b⟩
set_option maxHeartbeats 8000000 in
theorem rsound_any (k y t l : Int) (w : World) : Calls Tryz.prog 64 #[.agg #[.int .i64 k, .int .i64 y, .int .i64 t, .int .i64 l]] w (Says (.bool (soundB k y t l)) w) := by
  have cV := fun w => rvalid_any k 20 w
  unfold Says
  cases hv : validM k 20 with
  | false =>
    rw [hv] at cV
    rw [sound_no (fun h => by have := h.1; rw [hv] at this; simp at this)]
    clear hv
    have HK := hid (K1.first w k y t l 66)
    go_enter Tryz.func64, Tryz.ntmps64
    go_wp2_with fail
    refine (cV _).mono ?_
    rintro e w1 ⟨rfl, q, hq⟩
    have hk := HK.out.next (show Below _ _ w1 by rw [hq]; exact below_drewN (Below.refl _ _) q)
    clear hq HK
    obtain ⟨⟨x0, x1, x2, x3, _⟩, _⟩ := id hk
    go_wp2
    go_ret
    exact ⟨rfl, hk.b⟩
  | true =>
    rw [hv] at cV
    by_cases h0 : 0 ≤ y
    · have h0d : decide (0 ≤ y) = true := decide_eq_true h0
      by_cases h1 : y ≤ 6
      · have h1d : decide (y ≤ 6) = true := decide_eq_true h1
        by_cases h2 : 0 ≤ t
        · have h2d : decide (0 ≤ t) = true := decide_eq_true h2
          by_cases h3 : 1 ≤ l
          · have h3d : decide (1 ≤ l) = true := decide_eq_true h3
            by_cases h4 : t ≤ 24
            · have h4d : decide (t ≤ 24) = true := decide_eq_true h4
              by_cases h5 : l ≤ 24
              · have h5d : decide (l ≤ 24) = true := decide_eq_true h5
                by_cases h6 : t + l ≤ 24
                · have h6d : decide (t + l ≤ 24) = true := decide_eq_true h6
                  rw [sound_yes ⟨hv, by omega, by omega, by omega, by omega⟩]
                  clear hv
                  have HK := hid (K1.first w k y t l 66)
                  go_enter Tryz.func64, Tryz.ntmps64
                  go_wp2_with fail
                  refine (cV _).mono ?_
                  rintro e w1 ⟨rfl, q, hq⟩
                  have hk := HK.out.next (show Below _ _ w1 by rw [hq]; exact below_drewN (Below.refl _ _) q)
                  clear hq HK
                  obtain ⟨⟨x0, x1, x2, x3, _⟩, _⟩ := id hk
                  go_wp2
                  go_ret
                  exact ⟨rfl, hk.b⟩
                · have h6d : decide (t + l ≤ 24) = false := decide_eq_false h6
                  rw [sound_no (fun h => by obtain ⟨a1, a2, a3, a4, a5⟩ := h; omega)]
                  clear hv
                  have HK := hid (K1.first w k y t l 66)
                  go_enter Tryz.func64, Tryz.ntmps64
                  go_wp2_with fail
                  refine (cV _).mono ?_
                  rintro e w1 ⟨rfl, q, hq⟩
                  have hk := HK.out.next (show Below _ _ w1 by rw [hq]; exact below_drewN (Below.refl _ _) q)
                  clear hq HK
                  obtain ⟨⟨x0, x1, x2, x3, _⟩, _⟩ := id hk
                  go_wp2
                  go_ret
                  exact ⟨rfl, hk.b⟩
              · have h5d : decide (l ≤ 24) = false := decide_eq_false h5
                rw [sound_no (fun h => by obtain ⟨a1, a2, a3, a4, a5⟩ := h; omega)]
                clear hv
                have HK := hid (K1.first w k y t l 66)
                go_enter Tryz.func64, Tryz.ntmps64
                go_wp2_with fail
                refine (cV _).mono ?_
                rintro e w1 ⟨rfl, q, hq⟩
                have hk := HK.out.next (show Below _ _ w1 by rw [hq]; exact below_drewN (Below.refl _ _) q)
                clear hq HK
                obtain ⟨⟨x0, x1, x2, x3, _⟩, _⟩ := id hk
                go_wp2
                go_ret
                exact ⟨rfl, hk.b⟩
            · have h4d : decide (t ≤ 24) = false := decide_eq_false h4
              rw [sound_no (fun h => by obtain ⟨a1, a2, a3, a4, a5⟩ := h; omega)]
              clear hv
              have HK := hid (K1.first w k y t l 66)
              go_enter Tryz.func64, Tryz.ntmps64
              go_wp2_with fail
              refine (cV _).mono ?_
              rintro e w1 ⟨rfl, q, hq⟩
              have hk := HK.out.next (show Below _ _ w1 by rw [hq]; exact below_drewN (Below.refl _ _) q)
              clear hq HK
              obtain ⟨⟨x0, x1, x2, x3, _⟩, _⟩ := id hk
              go_wp2
              go_ret
              exact ⟨rfl, hk.b⟩
          · have h3d : decide (1 ≤ l) = false := decide_eq_false h3
            rw [sound_no (fun h => by obtain ⟨a1, a2, a3, a4, a5⟩ := h; omega)]
            clear hv
            have HK := hid (K1.first w k y t l 66)
            go_enter Tryz.func64, Tryz.ntmps64
            go_wp2_with fail
            refine (cV _).mono ?_
            rintro e w1 ⟨rfl, q, hq⟩
            have hk := HK.out.next (show Below _ _ w1 by rw [hq]; exact below_drewN (Below.refl _ _) q)
            clear hq HK
            obtain ⟨⟨x0, x1, x2, x3, _⟩, _⟩ := id hk
            go_wp2
            go_ret
            exact ⟨rfl, hk.b⟩
        · have h2d : decide (0 ≤ t) = false := decide_eq_false h2
          rw [sound_no (fun h => by obtain ⟨a1, a2, a3, a4, a5⟩ := h; omega)]
          clear hv
          have HK := hid (K1.first w k y t l 66)
          go_enter Tryz.func64, Tryz.ntmps64
          go_wp2_with fail
          refine (cV _).mono ?_
          rintro e w1 ⟨rfl, q, hq⟩
          have hk := HK.out.next (show Below _ _ w1 by rw [hq]; exact below_drewN (Below.refl _ _) q)
          clear hq HK
          obtain ⟨⟨x0, x1, x2, x3, _⟩, _⟩ := id hk
          go_wp2
          go_ret
          exact ⟨rfl, hk.b⟩
      · have h1d : decide (y ≤ 6) = false := decide_eq_false h1
        rw [sound_no (fun h => by obtain ⟨a1, a2, a3, a4, a5⟩ := h; omega)]
        clear hv
        have HK := hid (K1.first w k y t l 66)
        go_enter Tryz.func64, Tryz.ntmps64
        go_wp2_with fail
        refine (cV _).mono ?_
        rintro e w1 ⟨rfl, q, hq⟩
        have hk := HK.out.next (show Below _ _ w1 by rw [hq]; exact below_drewN (Below.refl _ _) q)
        clear hq HK
        obtain ⟨⟨x0, x1, x2, x3, _⟩, _⟩ := id hk
        go_wp2
        go_ret
        exact ⟨rfl, hk.b⟩
    · have h0d : decide (0 ≤ y) = false := decide_eq_false h0
      rw [sound_no (fun h => by obtain ⟨a1, a2, a3, a4, a5⟩ := h; omega)]
      clear hv
      have HK := hid (K1.first w k y t l 66)
      go_enter Tryz.func64, Tryz.ntmps64
      go_wp2_with fail
      refine (cV _).mono ?_
      rintro e w1 ⟨rfl, q, hq⟩
      have hk := HK.out.next (show Below _ _ w1 by rw [hq]; exact below_drewN (Below.refl _ _) q)
      clear hq HK
      obtain ⟨⟨x0, x1, x2, x3, _⟩, _⟩ := id hk
      go_wp2
      go_ret
      exact ⟨rfl, hk.b⟩
set_option maxHeartbeats 4000000 in
theorem usable_any (d s b m n : Int) (w : World) : Calls Tryz.prog 52 #[.agg #[.int .i64 d, .int .i64 s, .int .i64 b, .int .i64 m], .int .i64 n] w (Says (.bool (frameB d s b m n)) w) := by
  have cG := fun w => rgvalid_any d s b m w
  unfold Says at cG ⊢
  cases hg : gridB d s b m with
  | false =>
    rw [hg, if_neg (by simp)] at cG
    rw [frame_no (fun h => by rw [hg] at h; exact absurd h.1 (by simp))]
    clear hg
    have HK := hid (K1.first w d s b m 24)
    go_enter Tryz.func52, Tryz.ntmps52
    go_wp2_with fail
    refine (cG _).mono ?_
    rintro e w1 ⟨rfl, hb⟩
    have hk := HK.out.next hb
    clear hb HK
    go_wp2
    go_ret
    exact ⟨rfl, hk.b⟩
  | true =>
    rw [hg, if_pos rfl] at cG
    by_cases h0 : 1 ≤ n
    · have h0d : decide (1 ≤ n) = true := decide_eq_true h0
      by_cases h1 : n ≤ 20
      · have h1d : decide (n ≤ 20) = true := decide_eq_true h1
        rw [show frameB d s b m n = true from decide_eq_true ⟨hg, h0, h1⟩]
        clear hg
        have HK := hid (K1.first w d s b m 24)
        go_enter Tryz.func52, Tryz.ntmps52
        go_wp2_with fail
        refine (cG _).mono ?_
        rintro e w1 ⟨rfl, hb⟩
        have hk := HK.out.next hb
        clear hb HK
        go_wp2
        go_ret
        exact ⟨rfl, hk.b⟩
      · have h1d : decide (n ≤ 20) = false := decide_eq_false h1
        rw [frame_no (fun h => by omega)]
        clear hg
        have HK := hid (K1.first w d s b m 24)
        go_enter Tryz.func52, Tryz.ntmps52
        go_wp2_with fail
        refine (cG _).mono ?_
        rintro e w1 ⟨rfl, hb⟩
        have hk := HK.out.next hb
        clear hb HK
        go_wp2
        go_ret
        exact ⟨rfl, hk.b⟩
    · have h0d : decide (1 ≤ n) = false := decide_eq_false h0
      rw [frame_no (fun h => by omega)]
      clear hg
      have HK := hid (K1.first w d s b m 24)
      go_enter Tryz.func52, Tryz.ntmps52
      go_wp2_with fail
      refine (cG _).mono ?_
      rintro e w1 ⟨rfl, hb⟩
      have hk := HK.out.next hb
      clear hb HK
      go_wp2
      go_ret
      exact ⟨rfl, hk.b⟩
set_option maxHeartbeats 8000000 in
set_option maxRecDepth 100000 in
theorem rfits_any (d s b m n k y t l : Int) (w : World) : Calls Tryz.prog 33 #[.agg #[.int .i64 d, .int .i64 s, .int .i64 b, .int .i64 m], .int .i64 n, .agg #[.int .i64 k, .int .i64 y, .int .i64 t, .int .i64 l]] w (Says (.int .i64 (fitsM d s b m n k y t l)) w) := by
  have cF := fun w => usable_any d s b m n w
  have cS := fun w => rsound_any k y t l w
  have cV := fun w => rvalid_any k n w
  unfold Says at cF cS ⊢
  cases hf : frameB d s b m n with
  | false =>
    rw [show fitsM d s b m n k y t l = 1 by unfold fitsM; rw [if_neg (by rw [hf]; simp)]]
    rw [hf] at cF
    clear hf cS cV
    have HK := hid (K2.first w d s b m k y t l 24 66)
    go_enter Tryz.func33, Tryz.ntmps33
    go_wp2_with fail
    refine (cF _).mono ?_
    rintro e w1 ⟨rfl, hb⟩
    have hk := HK.out.next hb
    clear hb HK
    obtain ⟨⟨x0, x1, x2, x3, _⟩, ⟨y0, y1, y2, y3, _⟩, _⟩ := id hk
    go_wp2
    go_ret
    exact ⟨rfl, hk.b⟩
  | true =>
    rw [hf] at cF
    cases hs : soundB k y t l with
    | false =>
      rw [fits_no hf (fun h => by rw [hs] at h; exact absurd h.1 (by simp))]
      rw [hs] at cS
      clear hf hs cV
      have HK := hid (K2.first w d s b m k y t l 24 66)
      go_enter Tryz.func33, Tryz.ntmps33
      go_wp2_with fail
      refine (cF _).mono ?_
      rintro e w1 ⟨rfl, hb⟩
      have hk := HK.out.next hb
      clear hb HK
      obtain ⟨⟨x0, x1, x2, x3, _⟩, ⟨y0, y1, y2, y3, _⟩, _⟩ := id hk
      go_wp2_with fail
      refine (cS _).mono ?_
      rintro e w1 ⟨rfl, hb⟩
      have hk := hk.next hb
      clear hb
      obtain ⟨⟨x0, x1, x2, x3, _⟩, ⟨y0, y1, y2, y3, _⟩, _⟩ := id hk
      go_wp2
      go_ret
      exact ⟨rfl, hk.b⟩
    | true =>
      rw [hs] at cS
      obtain ⟨s1, s2, s3, s4, s5⟩ := sound_of hs
      cases hv : validM k n with
      | false =>
        rw [fits_no hf (fun h => by rw [hv] at h; exact absurd h.2.1 (by simp))]
        rw [hv] at cV
        clear hf hs hv s1
        have HK := hid (K2.first w d s b m k y t l 24 66)
        go_enter Tryz.func33, Tryz.ntmps33
        go_wp2_with fail
        refine (cF _).mono ?_
        rintro e w1 ⟨rfl, hb⟩
        have hk := HK.out.next hb
        clear hb HK
        obtain ⟨⟨x0, x1, x2, x3, _⟩, ⟨y0, y1, y2, y3, _⟩, _⟩ := id hk
        go_wp2_with fail
        refine (cS _).mono ?_
        rintro e w1 ⟨rfl, hb⟩
        have hk := hk.next hb
        clear hb
        obtain ⟨⟨x0, x1, x2, x3, _⟩, ⟨y0, y1, y2, y3, _⟩, _⟩ := id hk
        go_wp2_with fail
        refine (cV _).mono ?_
        rintro e w1 ⟨rfl, q, hq⟩
        have hk := hk.next (show Below _ _ w1 by rw [hq]; exact below_drewN (Below.refl _ _) q)
        clear hq
        obtain ⟨⟨x0, x1, x2, x3, _⟩, ⟨y0, y1, y2, y3, _⟩, _⟩ := id hk
        go_wp2
        go_ret
        exact ⟨rfl, hk.b⟩
      | true =>
        rw [hv] at cV
        by_cases hy : d ≤ y
        · have hyd : decide (d ≤ y) = true := decide_eq_true hy
          rw [fits_no hf (fun h => by omega)]
          clear hf hs hv s1
          have HK := hid (K2.first w d s b m k y t l 24 66)
          go_enter Tryz.func33, Tryz.ntmps33
          go_wp2_with fail
          refine (cF _).mono ?_
          rintro e w1 ⟨rfl, hb⟩
          have hk := HK.out.next hb
          clear hb HK
          obtain ⟨⟨x0, x1, x2, x3, _⟩, ⟨y0, y1, y2, y3, _⟩, _⟩ := id hk
          go_wp2_with fail
          refine (cS _).mono ?_
          rintro e w1 ⟨rfl, hb⟩
          have hk := hk.next hb
          clear hb
          obtain ⟨⟨x0, x1, x2, x3, _⟩, ⟨y0, y1, y2, y3, _⟩, _⟩ := id hk
          go_wp2_with fail
          refine (cV _).mono ?_
          rintro e w1 ⟨rfl, q, hq⟩
          have hk := hk.next (show Below _ _ w1 by rw [hq]; exact below_drewN (Below.refl _ _) q)
          clear hq
          obtain ⟨⟨x0, x1, x2, x3, _⟩, ⟨y0, y1, y2, y3, _⟩, _⟩ := id hk
          go_wp2
          go_ret
          exact ⟨rfl, hk.b⟩
        · have hyd : decide (d ≤ y) = false := decide_eq_false hy
          by_cases he : s < t + l
          · have hed : decide (s < t + l) = true := decide_eq_true he
            rw [fits_no hf (fun h => by omega)]
            clear hf hs hv s1
            have HK := hid (K2.first w d s b m k y t l 24 66)
            go_enter Tryz.func33, Tryz.ntmps33
            go_wp2_with fail
            refine (cF _).mono ?_
            rintro e w1 ⟨rfl, hb⟩
            have hk := HK.out.next hb
            clear hb HK
            obtain ⟨⟨x0, x1, x2, x3, _⟩, ⟨y0, y1, y2, y3, _⟩, _⟩ := id hk
            go_wp2_with fail
            refine (cS _).mono ?_
            rintro e w1 ⟨rfl, hb⟩
            have hk := hk.next hb
            clear hb
            obtain ⟨⟨x0, x1, x2, x3, _⟩, ⟨y0, y1, y2, y3, _⟩, _⟩ := id hk
            go_wp2_with fail
            refine (cV _).mono ?_
            rintro e w1 ⟨rfl, q, hq⟩
            have hk := hk.next (show Below _ _ w1 by rw [hq]; exact below_drewN (Below.refl _ _) q)
            clear hq
            obtain ⟨⟨x0, x1, x2, x3, _⟩, ⟨y0, y1, y2, y3, _⟩, _⟩ := id hk
            go_wp2
            go_ret
            exact ⟨rfl, hk.b⟩
          · have hed : decide (s < t + l) = false := decide_eq_false he
            rw [show fitsM d s b m n k y t l = 0 by unfold fitsM; rw [if_pos hf, if_pos ⟨hs, hv, by omega, by omega⟩]]
            clear hf hs hv s1
            have HK := hid (K2.first w d s b m k y t l 24 66)
            go_enter Tryz.func33, Tryz.ntmps33
            go_wp2_with fail
            refine (cF _).mono ?_
            rintro e w1 ⟨rfl, hb⟩
            have hk := HK.out.next hb
            clear hb HK
            obtain ⟨⟨x0, x1, x2, x3, _⟩, ⟨y0, y1, y2, y3, _⟩, _⟩ := id hk
            go_wp2_with fail
            refine (cS _).mono ?_
            rintro e w1 ⟨rfl, hb⟩
            have hk := hk.next hb
            clear hb
            obtain ⟨⟨x0, x1, x2, x3, _⟩, ⟨y0, y1, y2, y3, _⟩, _⟩ := id hk
            go_wp2_with fail
            refine (cV _).mono ?_
            rintro e w1 ⟨rfl, q, hq⟩
            have hk := hk.next (show Below _ _ w1 by rw [hq]; exact below_drewN (Below.refl _ _) q)
            clear hq
            obtain ⟨⟨x0, x1, x2, x3, _⟩, ⟨y0, y1, y2, y3, _⟩, _⟩ := id hk
            go_wp2
            go_ret
            exact ⟨rfl, hk.b⟩
end Go.Proofs.YtigdcgklpapfbaaGreatDoor

set_option linter.unusedVariables false
namespace Go.Proofs.YtigdcgklpapfbaaGreatDoor
open Go Go.Proofs Go.RowKit Go.Lib

abbrev TimeD := Int × Int × Int × Int
abbrev RoomD := Str × Str × Int × List Str × List TimeD
def timeVs (t : TimeD) : List Value := [.int .i64 t.1, .int .i64 t.2.1, .int .i64 t.2.2.1, .int .i64 t.2.2.2]
end Go.Proofs.YtigdcgklpapfbaaGreatDoor

set_option linter.unusedVariables false
namespace Go.Proofs.YtigdcgklpapfbaaGreatDoor.S3
open Go Go.Lib

abbrev Str := List UInt8
/-! ### elements -/
def dg (c : UInt8) : Bool := decide (48 ≤ c.toNat) && decide (c.toNat ≤ 57)
def runN (d : Bool) : Str → Nat
  | [] => 0
  | c :: r => if dg c = d then runN d r + 1 else 0
/-- The length of the first element. -/
def elemN : Str → Nat
  | [] => 0
  | c :: r => runN (dg c) r + 1
end Go.Proofs.YtigdcgklpapfbaaGreatDoor.S3

set_option linter.unusedVariables false
namespace Go.Proofs.YtigdcgklpapfbaaGreatDoor.S3
open Go Go.Proofs Go.RowKit Go.Lib

def ltr (c : UInt8) : Bool := (decide (65 ≤ c.toNat) && decide (c.toNat ≤ 90)) || (decide (97 ≤ c.toNat) && decide (c.toNat ≤ 122))
def sgn (c : UInt8) : Bool := c.toNat == 95 || c.toNat == 45
def okC (c : UInt8) : Bool := ltr c || dg c || sgn c
/-- A code. -/
def validC (s : Str) : Bool := match s with | [] => false | c :: _ => decide (s.length ≤ 16) && !sgn c && s.all okC
set_option maxHeartbeats 1000000 in
theorem isDigit_any (c : UInt8) (w : World) : Calls Tryz.prog 109 #[.int .u8 (c.toNat : Int)] w fun e w' => e = .returned (.bool (dg c)) ∧ w = w' := by
  unfold dg
  rcases (show c.toNat < 48 ∨ (48 ≤ c.toNat ∧ c.toNat ≤ 57) ∨ 57 < c.toNat by omega) with h | h | h
  · have z1 : ¬ (48 : Int) ≤ (c.toNat : Int) := by omega
    rw [show (decide (48 ≤ c.toNat) && decide (c.toNat ≤ 57)) = false by simp; omega]
    go_enter Tryz.func109, Tryz.ntmps109
    go_wp2
    go_ret
    exact ⟨rfl, rfl⟩
  · have z1 : (48 : Int) ≤ (c.toNat : Int) := by omega
    have z2 : (c.toNat : Int) ≤ 57 := by omega
    rw [show (decide (48 ≤ c.toNat) && decide (c.toNat ≤ 57)) = true by simp; omega]
    go_enter Tryz.func109, Tryz.ntmps109
    go_wp2
    go_ret
    exact ⟨rfl, rfl⟩
  · have z1 : (48 : Int) ≤ (c.toNat : Int) := by omega
    have z2 : ¬ (c.toNat : Int) ≤ 57 := by omega
    rw [show (decide (48 ≤ c.toNat) && decide (c.toNat ≤ 57)) = false by simp; omega]
    go_enter Tryz.func109, Tryz.ntmps109
    go_wp2
    go_ret
    exact ⟨rfl, rfl⟩
theorem ltr_cases (c : UInt8) : (c.toNat < 65 ∧ ltr c = false) ∨ ((65 ≤ c.toNat ∧ c.toNat ≤ 90) ∧ ltr c = true) ∨ ((90 < c.toNat ∧ c.toNat < 97) ∧ ltr c = false) ∨ ((97 ≤ c.toNat ∧ c.toNat ≤ 122) ∧ ltr c = true) ∨ (122 < c.toNat ∧ ltr c = false) := by
  unfold ltr
  rcases (show c.toNat < 65 ∨ (65 ≤ c.toNat ∧ c.toNat ≤ 90) ∨ (90 < c.toNat ∧ c.toNat < 97) ∨ (97 ≤ c.toNat ∧ c.toNat ≤ 122) ∨ 122 < c.toNat by omega) with h | h | h | h | h
  · exact .inl ⟨h, by simp; omega⟩
  · exact .inr (.inl ⟨h, by simp; omega⟩)
  · exact .inr (.inr (.inl ⟨h, by simp; omega⟩))
  · exact .inr (.inr (.inr (.inl ⟨h, by simp; omega⟩)))
  · exact .inr (.inr (.inr (.inr ⟨h, by simp; omega⟩)))
set_option maxHeartbeats 1000000 in
theorem isLetter_any (c : UInt8) (w : World) : Calls Tryz.prog 108 #[.int .u8 (c.toNat : Int)] w fun e w' => e = .returned (.bool (ltr c)) ∧ w = w' := by
  rcases ltr_cases c with ⟨h, e⟩ | ⟨h, e⟩ | ⟨h, e⟩ | ⟨h, e⟩ | ⟨h, e⟩ <;> rw [e] <;> clear e
  · have z1 : ¬ (65 : Int) ≤ (c.toNat : Int) := by omega
    have z3 : ¬ (97 : Int) ≤ (c.toNat : Int) := by omega
    go_enter Tryz.func108, Tryz.ntmps108
    go_wp2
    go_ret
    exact ⟨rfl, rfl⟩
  · have z1 : (65 : Int) ≤ (c.toNat : Int) := by omega
    have z2 : (c.toNat : Int) ≤ 90 := by omega
    go_enter Tryz.func108, Tryz.ntmps108
    go_wp2
    go_ret
    exact ⟨rfl, rfl⟩
  · have z1 : (65 : Int) ≤ (c.toNat : Int) := by omega
    have z2 : ¬ (c.toNat : Int) ≤ 90 := by omega
    have z3 : ¬ (97 : Int) ≤ (c.toNat : Int) := by omega
    go_enter Tryz.func108, Tryz.ntmps108
    go_wp2
    go_ret
    exact ⟨rfl, rfl⟩
  · have z1 : (65 : Int) ≤ (c.toNat : Int) := by omega
    have z2 : ¬ (c.toNat : Int) ≤ 90 := by omega
    have z3 : (97 : Int) ≤ (c.toNat : Int) := by omega
    have z4 : (c.toNat : Int) ≤ 122 := by omega
    go_enter Tryz.func108, Tryz.ntmps108
    go_wp2
    go_ret
    exact ⟨rfl, rfl⟩
  · have z1 : (65 : Int) ≤ (c.toNat : Int) := by omega
    have z2 : ¬ (c.toNat : Int) ≤ 90 := by omega
    have z3 : (97 : Int) ≤ (c.toNat : Int) := by omega
    have z4 : ¬ (c.toNat : Int) ≤ 122 := by omega
    go_enter Tryz.func108, Tryz.ntmps108
    go_wp2
    go_ret
    exact ⟨rfl, rfl⟩
theorem sgn_cases (c : UInt8) : (((c.toNat : Int) == 95) = true ∧ ((c.toNat : Int) != 95) = false ∧ sgn c = true) ∨ (((c.toNat : Int) == 95) = false ∧ ((c.toNat : Int) != 95) = true ∧ ((c.toNat : Int) == 45) = true ∧ ((c.toNat : Int) != 45) = false ∧ sgn c = true) ∨ (((c.toNat : Int) == 95) = false ∧ ((c.toNat : Int) != 95) = true ∧ ((c.toNat : Int) == 45) = false ∧ ((c.toNat : Int) != 45) = true ∧ sgn c = false) := by
  unfold sgn
  rcases (show c.toNat = 95 ∨ c.toNat = 45 ∨ (c.toNat ≠ 95 ∧ c.toNat ≠ 45) by omega) with h | h | h
  · exact .inl (by rw [h]; decide)
  · exact .inr (.inl (by rw [h]; decide))
  · refine .inr (.inr ⟨?_, ?_, ?_, ?_, ?_⟩) <;> simp <;> omega
set_option maxHeartbeats 1000000 in
theorem isSign_any (c : UInt8) (w : World) : Calls Tryz.prog 107 #[.int .u8 (c.toNat : Int)] w fun e w' => e = .returned (.bool (sgn c)) ∧ w = w' := by
  rcases sgn_cases c with ⟨h, _, e⟩ | ⟨h1, _, h2, _, e⟩ | ⟨h1, _, h2, _, e⟩ <;> rw [e] <;> clear e
  all_goals
    go_enter Tryz.func107, Tryz.ntmps107
    go_wp2
    go_ret
    exact ⟨rfl, rfl⟩

theorem all_snoc (s : ByteArray) (k : Nat) (h : k < s.size) : (s.data.toList.take (k + 1)).all okC = ((s.data.toList.take k).all okC && okC s[k]) := by
  rw [List.take_succ_eq_append_getElem (by simpa using h), List.all_append]
  simp
  rfl
theorem all_bad (s : ByteArray) (k : Nat) (h : k < s.size) (hb : okC s[k] = false) : s.data.toList.all okC = false := by
  rw [List.all_eq_false]
  refine ⟨s[k], ?_, by simp [hb]⟩
  exact Array.mem_toList_iff.2 (Array.getElem_mem _)
theorem validC_no {s : ByteArray} (h : s.data.toList.all okC = false) : validC s.data.toList = false := by
  unfold validC
  split
  · rfl
  · rw [h, Bool.and_false]
theorem valid_big {s : ByteArray} (h : 16 < s.size) : validC s.data.toList = false := by
  rw [Lib.size_eq] at h
  unfold validC
  split
  · rfl
  · rw [decide_eq_false (by omega)]; rfl
theorem valid_sign {s : ByteArray} (h0 : 0 < s.size) (h : sgn s[0] = true) : validC s.data.toList = false := by
  unfold validC
  split
  · rfl
  · rename_i c r hs
    have : s[0] = c := by
      have : s.data.toList[0]? = some c := by rw [hs]; rfl
      rw [Lib.size_eq] at h0
      rw [List.getElem?_eq_getElem h0] at this
      exact Option.some.inj this
    rw [this] at h
    rw [h]
    simp
theorem valid_yes {s : ByteArray} (h0 : 0 < s.size) (h16 : s.size ≤ 16) (h : sgn s[0] = false) (ha : s.data.toList.all okC = true) : validC s.data.toList = true := by
  rw [Lib.size_eq] at h16
  unfold validC
  split
  · rename_i hs; rw [Lib.size_eq, hs] at h0; simp at h0
  · rename_i c r hs
    have : s[0] = c := by
      have : s.data.toList[0]? = some c := by rw [hs]; rfl
      rw [Lib.size_eq] at h0
      rw [List.getElem?_eq_getElem h0] at this
      exact Option.some.inj this
    rw [this] at h
    rw [h, ha, decide_eq_true h16]
    rfl
end Go.Proofs.YtigdcgklpapfbaaGreatDoor.S3

set_option linter.unusedVariables false
namespace Go.Proofs.YtigdcgklpapfbaaGreatDoor.S3
open Go Go.Proofs Go.RowKit Go.Lib

theorem okC_cases (x : UInt8) : (ltr x = true ∧ Hid (okC x = true)) ∨ (ltr x = false ∧ dg x = true ∧ Hid (okC x = true)) ∨ (ltr x = false ∧ dg x = false ∧ sgn x = true ∧ Hid (okC x = true)) ∨ (ltr x = false ∧ dg x = false ∧ sgn x = false ∧ Hid (okC x = false)) := by
  unfold okC
  cases h1 : ltr x
  · cases h2 : dg x
    · cases h3 : sgn x
      · exact .inr (.inr (.inr ⟨rfl, rfl, rfl, hid rfl⟩))
      · exact .inr (.inr (.inl ⟨rfl, rfl, rfl, hid rfl⟩))
    · exact .inr (.inl ⟨rfl, rfl, hid rfl⟩)
  · exact .inl ⟨rfl, hid rfl⟩

set_option maxHeartbeats 4000000 in
set_option maxRecDepth 100000 in
theorem valid_any (s : ByteArray) (w : World) : Calls Tryz.prog 75 #[.string s] w fun e w' => e = .returned (.bool (validC s.data.toList)) ∧ w = w' := by
  obtain ⟨ANS, hANS⟩ : ∃ ANS, validC s.data.toList = ANS := ⟨_, rfl⟩
  rw [hANS]
  by_cases h0 : 0 < s.size
  · have hne : s.data.toList ≠ [] := fun e => by rw [Lib.size_eq, e] at h0; simp at h0
    have t1 : (s.toList == []) = false := by rw [Lib.toList_data]; simpa using hne
    have t2 : (!s.toList.isEmpty) = true := by rw [Lib.toList_data]; simpa using hne
    by_cases h16 : 16 < s.size
    · have hA : ANS = false := by rw [← hANS]; exact valid_big h16
      have hz : (16 : Int) < (s.size : Int) := by omega
      have hzd : decide ((16 : Int) < (s.size : Int)) = true := decide_eq_true hz
      have HA := hid hA
      clear hne hANS hA
      go_enter Tryz.func75, Tryz.ntmps75
      go_wp2
      go_ret
      rw [HA.out]
      exact ⟨rfl, rfl⟩
    · have hz : ¬ (16 : Int) < (s.size : Int) := by omega
      have hzd : decide ((16 : Int) < (s.size : Int)) = false := decide_eq_false hz
      have cS := isSign_any (s[0]'h0)
      cases hs0 : sgn (s[0]'h0) with
      | true =>
        have hA : ANS = false := by rw [← hANS]; exact valid_sign h0 hs0
        have HA := hid hA
        rw [hs0] at cS
        obtain ⟨x, hx⟩ : ∃ x, s[0]'h0 = x := ⟨_, rfl⟩
        rw [hx] at cS
        clear hne hANS hA hs0
        go_enter Tryz.func75, Tryz.ntmps75
        go_wp2_with (go_at_call 107; refine (cS _).mono ?_; rintro e w' ⟨rfl, rfl⟩)
        go_ret
        rw [HA.out]
        exact ⟨rfl, rfl⟩
      | false =>
        rw [hs0] at cS
        have hA : s.data.toList.all okC = true → ANS = true := fun h => by rw [← hANS]; exact valid_yes h0 (by omega) hs0 h
        have hB : s.data.toList.all okC = false → ANS = false := fun h => by rw [← hANS]; exact validC_no h
        have HA := hid hA
        have HB := hid hB
        have CS := hid cS
        obtain ⟨x0, hx0⟩ : ∃ x, s[0]'h0 = x := ⟨_, rfl⟩
        rw [hx0] at CS
        clear hne hANS hA hB hs0 cS
        have cS := CS.out
        go_enter Tryz.func75, Tryz.ntmps75
        go_wp2_with (go_at_call 107; refine (cS _).mono ?_; rintro e w' ⟨rfl, rfl⟩)
        clear cS CS hx0
        go_loop [3, 18] (fun _ i => ∃ k : Nat, k ≤ s.size ∧ i = .int .i64 (k : Int) ∧ Hid ((s.data.toList.take k).all okC = true)) (fun _ i => s.size - (RowKit.intOf i).toNat)
        case atStart => exact ⟨0, Nat.zero_le _, rfl, hid rfl⟩
        case round =>
          obtain ⟨k, hk, rfl, hall⟩ := hrel
          by_cases hlt : k < s.size
          · have hltz : (k : Int) < (s.size : Int) := by omega
            have hsn := all_snoc s k hlt
            have hbad := all_bad s k hlt
            have cL := isLetter_any (s[k]'hlt)
            have cD := isDigit_any (s[k]'hlt)
            have cG := isSign_any (s[k]'hlt)
            obtain ⟨x, hx⟩ : ∃ x, s[k]'hlt = x := ⟨_, rfl⟩
            rw [hx] at hsn hbad cL cD cG
            have HSN := hid hsn
            have HBAD := hid hbad
            clear hsn hbad
            rcases okC_cases x with ⟨h1, ho⟩ | ⟨h1, h2, ho⟩ | ⟨h1, h2, h3, ho⟩ | ⟨h1, h2, h3, ho⟩
            · rw [h1] at cL
              clear h1 cD cG
              go_wp2_with (go_at_call 108; refine (cL _).mono ?_; rintro e w' ⟨rfl, rfl⟩)
              go_round
              case rel => exact ⟨k + 1, hlt, by go_num, by rw [HSN.out, hall.out, ho.out]; exact hid rfl⟩
              case measure => simp [RowKit.intOf]; omega
            · rw [h1] at cL
              rw [h2] at cD
              clear h1 h2 cG
              go_wp2_with (first | (go_at_call 108; refine (cL _).mono ?_; rintro e w' ⟨rfl, rfl⟩) | (go_at_call 109; refine (cD _).mono ?_; rintro e w' ⟨rfl, rfl⟩))
              go_round
              case rel => exact ⟨k + 1, hlt, by go_num, by rw [HSN.out, hall.out, ho.out]; exact hid rfl⟩
              case measure => simp [RowKit.intOf]; omega
            · rw [h1] at cL
              rw [h2] at cD
              rw [h3] at cG
              clear h1 h2 h3
              go_wp2_with (first | (go_at_call 108; refine (cL _).mono ?_; rintro e w' ⟨rfl, rfl⟩) | (go_at_call 109; refine (cD _).mono ?_; rintro e w' ⟨rfl, rfl⟩) | (go_at_call 107; refine (cG _).mono ?_; rintro e w' ⟨rfl, rfl⟩))
              go_round
              case rel => exact ⟨k + 1, hlt, by go_num, by rw [HSN.out, hall.out, ho.out]; exact hid rfl⟩
              case measure => simp [RowKit.intOf]; omega
            · rw [h1] at cL
              rw [h2] at cD
              rw [h3] at cG
              clear h1 h2 h3
              go_wp2_with (first | (go_at_call 108; refine (cL _).mono ?_; rintro e w' ⟨rfl, rfl⟩) | (go_at_call 109; refine (cD _).mono ?_; rintro e w' ⟨rfl, rfl⟩) | (go_at_call 107; refine (cG _).mono ?_; rintro e w' ⟨rfl, rfl⟩))
              go_ret
              rw [HB.out (HBAD.out ho.out)]
              exact ⟨rfl, rfl⟩
          · have hltz : ¬ (k : Int) < (s.size : Int) := by omega
            have hfull : Hid (s.data.toList.all okC = true) := by
              have := hall.out
              rw [List.take_of_length_le (by rw [← Lib.size_eq]; omega)] at this
              exact hid this
            go_wp2
            go_ret
            rw [HA.out hfull.out]
            exact ⟨rfl, rfl⟩
  · have hz : s.size = 0 := by omega
    have hsz := hz
    rw [Lib.size_eq] at hz
    have hnil : s.data.toList = [] := List.eq_nil_of_length_eq_zero hz
    have t1 : (s.toList == []) = true := by rw [Lib.toList_data, hnil]; rfl
    have t2 : s.toList = [] := by rw [Lib.toList_data, hnil]
    have hA : ANS = false := by rw [← hANS, hnil]; rfl
    have HA := hid hA
    clear hz hsz hnil hANS hA
    go_enter Tryz.func75, Tryz.ntmps75
    go_wp2
    go_ret
    rw [HA.out]
    exact ⟨rfl, rfl⟩
end Go.Proofs.YtigdcgklpapfbaaGreatDoor.S3

set_option linter.unusedVariables false
namespace Go.Proofs.YtigdcgklpapfbaaGreatDoor.S3
open Go Go.Proofs Go.RowKit Go.Lib

abbrev lst (s : ByteArray) : Str := s.data.toList
theorem lst_extract (s : ByteArray) (a b : Nat) : lst (s.extract a b) = ((lst s).take b).drop a := by
  simp [lst, ByteArray.data_extract, List.extract_eq_take_drop, List.drop_take]
theorem below_drewN {B : Nat} {a w : World} (h : Below B a w) : ∀ q, Below B a (w.drewN q)
  | 0 => h
  | q + 1 => (below_drewN h q).drew

/-- What cutElement hands back. -/
def CutOut (s : ByteArray) (w : World) (e : Ending) (w' : World) : Prop :=
  (∃ X Y : ByteArray, e = .returned (.tuple #[.string X, .string Y]) ∧ lst X = (lst s).take (elemN (lst s)) ∧ lst Y = (lst s).drop (elemN (lst s))) ∧ Below w.heap.size w w'

end Go.Proofs.YtigdcgklpapfbaaGreatDoor.S3

set_option linter.unusedVariables false
namespace Go.Proofs.YtigdcgklpapfbaaGreatDoor.S3
open Go Go.Proofs Go.RowKit Go.Lib

def strV (s : Str) : Value := .string ⟨s.toArray⟩
/-- The slice at A holds the strings l, in a block with P. -/
def StrsIn (w : World) (P : Nat → Prop) (A : Option Addr) (l : List Str) : Prop :=
  l = [] ∨ ∃ b off, A = some ⟨b, off, none⟩ ∧ P b ∧ ∀ (j : Nat) (s : Str), l[j]? = some s → w.cell? ⟨b, off + j, none⟩ = some (strV s)
theorem StrsIn.kept {w w' : World} {P : Nat → Prop} {A : Option Addr} {l : List Str} (h : StrsIn w P A l) (hk : ∀ b, P b → w'.heap[b]? = w.heap[b]?) : StrsIn w' P A l := by
  rcases h with h | ⟨b, off, hA, hP, hc⟩
  · exact .inl h
  · exact .inr ⟨b, off, hA, hP, fun j s hj => (World.cell?_of_block (w := w) (hk b hP)).trans (hc j s hj)⟩
theorem StrsIn.mono {w : World} {P P' : Nat → Prop} {A : Option Addr} {l : List Str} (h : StrsIn w P A l) (hP : ∀ b, P b → P' b) : StrsIn w P' A l := by
  rcases h with h | ⟨b, off, hA, hb, hc⟩
  · exact .inl h
  · exact .inr ⟨b, off, hA, hP b hb, hc⟩
theorem StrsIn.at_ {w : World} {P : Nat → Prop} {A : Option Addr} {l : List Str} (h : StrsIn w P A l) {k : Nat} (hk : k < l.length) :
    ∃ b off, A = some ⟨b, off, none⟩ ∧ P b ∧ w.cell? ⟨b, off + k, none⟩ = some (strV l[k]) := by
  rcases h with h | ⟨b, off, hA, hP, hc⟩
  · subst h; simp at hk
  · exact ⟨b, off, hA, hP, hc k _ (List.getElem?_eq_getElem hk)⟩

theorem infoStr : (Tryz.prog.info? 9).map (fun i => (i.zero, i.size, i.bytes)) = some (some (.string ⟨#[]⟩), 1, 16) := by kernel_rfl
def strVals (l : List Str) : List Value := l.map strV
theorem strVals_len (l : List Str) : (strVals l).length = l.length := by simp [strVals]
theorem strVals_app (a b : List Str) : strVals (a ++ b) = strVals a ++ strVals b := by simp [strVals]
/-- A row of strings that the call owns. -/
def StrRow (w : World) (B : Nat) (v : Value) (l : List Str) : Prop := w.ownsRow B 9 1 v l.length (strVals l)
theorem StrRow.strsIn {w : World} {B : Nat} {v : Value} {l : List Str} (h : StrRow w B v l) : ∃ A c, v = .slice A l.length c ∧ l.length ≤ c ∧ c ≤ 9223372036854775807 ∧ StrsIn w (fun b => B ≤ b ∧ b < w.heap.size) A l := by
  have h' := h
  rcases h.2 with ⟨hv, h0⟩ | ⟨g, cap, cur, hv, hB, hg, h1, h2, _⟩
  · have hl : l = [] := List.eq_nil_of_length_eq_zero h0
    subst hl
    exact ⟨none, 0, hv, Nat.le_refl _, by omega, .inl rfl⟩
  · refine ⟨_, cap, hv, h1, by unfold maxLen at h2; omega, .inr ⟨g, 0, rfl, ⟨hB, (Array.getElem?_eq_some_iff.1 hg).1⟩, fun j s hj => ?_⟩⟩
    have := World.ownsRow.cells h' (g := g) (by rw [hv]; rfl) j (strV s) (by unfold strVals; rw [List.getElem?_map, hj]; rfl)
    rwa [Addr.add_lit] at this
theorem StrRow.mono {w : World} {B B' : Nat} {v : Value} {l : List Str} (h : StrRow w B v l) (hB : B' ≤ B) : StrRow w B' v l := by
  obtain ⟨h1, h2⟩ := h
  refine ⟨h1, ?_⟩
  rcases h2 with h2 | ⟨g, cap, cur, hv, hg, r⟩
  · exact .inl h2
  · exact .inr ⟨g, cap, cur, hv, by omega, r⟩
theorem one_str (s : ByteArray) : ∀ u ∈ [Value.string s], u.oneCell' = true := by
  intro u hu
  simp at hu
  subst hu
  rfl

theorem row_under {w w' : World} {B e z n : Nat} {v : Value} {xs : List Value} (h : w.ownsRow B e z v n xs) (hb : Below w.heap.size w w') : w'.ownsRow B e z v n xs := by
  obtain ⟨h1, h2⟩ := h
  refine ⟨h1, ?_⟩
  rcases h2 with h2 | ⟨k, cap, cur, hk, hg, hh, r⟩
  · exact .inl h2
  · exact .inr ⟨k, cap, cur, hk, hg, (hb.block k (Array.getElem?_eq_some_iff.1 hh).1).trans hh, r⟩
set_option maxHeartbeats 1000000 in
theorem row_slice {w : World} {B e z n : Nat} {v : Value} {xs : List Value} (h : w.ownsRow B e z v n xs) : ∃ A c, v = .slice A n c := by
  rcases h.2 with ⟨hv, h0⟩ | ⟨g, cap, cur, hv, _⟩
  · exact ⟨none, 0, by rw [hv, h0]⟩
  · exact ⟨_, cap, hv⟩

end Go.Proofs.YtigdcgklpapfbaaGreatDoor.S3
