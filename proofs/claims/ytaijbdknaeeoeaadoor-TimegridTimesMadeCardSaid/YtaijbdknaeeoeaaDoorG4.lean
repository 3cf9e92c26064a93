/-
  How two times stand to each other, by the specification: meet, Between, Overlap, Before. Conditions: none.
-/
import Derived.Test.YtaijbdknaeeoeaaDoorG2
import Derived.Test.YtaijbdknaeeoeaaDoorG3
set_option linter.unusedVariables false
namespace Go.Proofs.YtaijbdknaeeoeaaDoor
open Go Go.Proofs Go.RowKit Go.Lib

set_option maxHeartbeats 4000000 in
set_option maxRecDepth 100000 in
theorem rmeet_any (k y t l k' y' t' l' : Int) (w : World) : Calls Tryd.prog 61 #[.agg #[.int .i64 k, .int .i64 y, .int .i64 t, .int .i64 l], .agg #[.int .i64 k', .int .i64 y', .int .i64 t', .int .i64 l']] w (Says (.bool (meetB k y t l k' y' t' l')) w) := by
  have cS := fun w => rsound_any k y t l w
  have cS2 := fun w => rsound_any k' y' t' l' w
  unfold Says at cS cS2 ⊢
  cases hs : soundB k y t l with
  | false =>
    rw [show meetB k y t l k' y' t' l' = false from decide_eq_false (fun h => by rw [hs] at h; exact absurd h.1 (by simp))]
    rw [hs] at cS
    clear hs cS2
    have HK := hid (K2.first w k y t l k' y' t' l' 46 46)
    go_enter Tryd.func61, Tryd.ntmps61
    go_wp2_with fail
    refine (cS _).mono ?_
    rintro e w1 ⟨rfl, hb⟩
    have hk := HK.out.next hb
    clear hb HK
    obtain ⟨⟨x0, x1, x2, x3, _⟩, ⟨y0, y1, y2, y3, _⟩, _⟩ := id hk
    go_wp2
    go_ret
    exact ⟨rfl, hk.b⟩
  | true =>
    rw [hs] at cS
    cases hs2 : soundB k' y' t' l' with
    | false =>
      rw [show meetB k y t l k' y' t' l' = false from decide_eq_false (fun h => by rw [hs2] at h; exact absurd h.2.1 (by simp))]
      rw [hs2] at cS2
      clear hs hs2
      have HK := hid (K2.first w k y t l k' y' t' l' 46 46)
      go_enter Tryd.func61, Tryd.ntmps61
      go_wp2_with fail
      refine (cS _).mono ?_
      rintro e w1 ⟨rfl, hb⟩
      have hk := HK.out.next hb
      clear hb HK
      obtain ⟨⟨x0, x1, x2, x3, _⟩, ⟨y0, y1, y2, y3, _⟩, _⟩ := id hk
      go_wp2_with fail
      refine (cS2 _).mono ?_
      rintro e w1 ⟨rfl, hb⟩
      have hk := hk.next hb
      clear hb
      obtain ⟨⟨x0, x1, x2, x3, _⟩, ⟨y0, y1, y2, y3, _⟩, _⟩ := id hk
      go_wp2
      go_ret
      exact ⟨rfl, hk.b⟩
    | true =>
      rw [hs2] at cS2
      by_cases hw : bits .and .i64 k k' = 0
      · rw [show meetB k y t l k' y' t' l' = false from decide_eq_false (fun h => h.2.2.1 hw)]
        clear hs hs2
        have HK := hid (K2.first w k y t l k' y' t' l' 46 46)
        go_enter Tryd.func61, Tryd.ntmps61
        go_wp2_with fail
        refine (cS _).mono ?_
        rintro e w1 ⟨rfl, hb⟩
        have hk := HK.out.next hb
        clear hb HK
        obtain ⟨⟨x0, x1, x2, x3, _⟩, ⟨y0, y1, y2, y3, _⟩, _⟩ := id hk
        go_wp2_with fail
        refine (cS2 _).mono ?_
        rintro e w1 ⟨rfl, hb⟩
        have hk := hk.next hb
        clear hb
        obtain ⟨⟨x0, x1, x2, x3, _⟩, ⟨y0, y1, y2, y3, _⟩, _⟩ := id hk
        go_wp2
        go_ret
        exact ⟨rfl, hk.b⟩
      · have hwd : (bits .and .i64 k k' != 0) = true := by simpa using hw
        by_cases hy : y = y'
        · rw [show meetB k y t l k' y' t' l' = true from decide_eq_true ⟨hs, hs2, hw, hy⟩]
          have hyd : (y == y') = true := by simpa using hy
          clear hs hs2 hw hy
          have HK := hid (K2.first w k y t l k' y' t' l' 46 46)
          go_enter Tryd.func61, Tryd.ntmps61
          go_wp2_with fail
          refine (cS _).mono ?_
          rintro e w1 ⟨rfl, hb⟩
          have hk := HK.out.next hb
          clear hb HK
          obtain ⟨⟨x0, x1, x2, x3, _⟩, ⟨y0, y1, y2, y3, _⟩, _⟩ := id hk
          go_wp2_with fail
          refine (cS2 _).mono ?_
          rintro e w1 ⟨rfl, hb⟩
          have hk := hk.next hb
          clear hb
          obtain ⟨⟨x0, x1, x2, x3, _⟩, ⟨y0, y1, y2, y3, _⟩, _⟩ := id hk
          go_wp2
          go_ret
          exact ⟨rfl, hk.b⟩
        · have hyd : (y == y') = false := by simpa using hy
          rw [show meetB k y t l k' y' t' l' = false from decide_eq_false (fun h => hy h.2.2.2)]
          clear hs hs2 hw
          have HK := hid (K2.first w k y t l k' y' t' l' 46 46)
          go_enter Tryd.func61, Tryd.ntmps61
          go_wp2_with fail
          refine (cS _).mono ?_
          rintro e w1 ⟨rfl, hb⟩
          have hk := HK.out.next hb
          clear hb HK
          obtain ⟨⟨x0, x1, x2, x3, _⟩, ⟨y0, y1, y2, y3, _⟩, _⟩ := id hk
          go_wp2_with fail
          refine (cS2 _).mono ?_
          rintro e w1 ⟨rfl, hb⟩
          have hk := hk.next hb
          clear hb
          obtain ⟨⟨x0, x1, x2, x3, _⟩, ⟨y0, y1, y2, y3, _⟩, _⟩ := id hk
          go_wp2
          go_ret
          exact ⟨rfl, hk.b⟩
set_option maxHeartbeats 4000000 in
set_option maxRecDepth 100000 in
theorem rbetween_any (k y t l k' y' t' l' : Int) (w : World) : Calls Tryd.prog 29 #[.agg #[.int .i64 k, .int .i64 y, .int .i64 t, .int .i64 l], .agg #[.int .i64 k', .int .i64 y', .int .i64 t', .int .i64 l']] w (Says (.tuple #[.int .i64 (betM k y t l k' y' t' l').1, .bool (betM k y t l k' y' t' l').2]) w) := by
  have cM := fun w => rmeet_any k y t l k' y' t' l' w
  unfold Says at cM ⊢
  unfold betM
  cases hm : meetB k y t l k' y' t' l' with
  | false =>
    rw [if_neg (by simp)]
    rw [hm] at cM
    clear hm
    have HK := hid (K2.first w k y t l k' y' t' l' 46 46)
    go_enter Tryd.func29, Tryd.ntmps29
    go_wp2_with fail
    refine (cM _).mono ?_
    rintro e w1 ⟨rfl, hb⟩
    have hk := HK.out.next hb
    clear hb HK
    obtain ⟨⟨x0, x1, x2, x3, _⟩, ⟨y0, y1, y2, y3, _⟩, _⟩ := id hk
    go_wp2
    go_ret2
    exact ⟨rfl, hk.b⟩
  | true =>
    rw [if_pos rfl]
    rw [hm] at cM
    obtain ⟨m1, m2, -, -⟩ : soundB k y t l = true ∧ soundB k' y' t' l' = true ∧ bits .and .i64 k k' ≠ 0 ∧ y = y' := of_decide_eq_true hm
    obtain ⟨s1, s2, s3, s4, s5⟩ := sound_of m1
    obtain ⟨r1, r2, r3, r4, r5⟩ := sound_of m2
    have four : ∃ D, max t t' - min (t + l) (t' + l') = D ∧ gapI t l t' l' = max D (-1) ∧ IntKind.i64.wrap D = D := by
      refine ⟨_, rfl, rfl, IntWalk.i64_in _ ?_⟩
      omega
    obtain ⟨D, hD, hG, hWD⟩ := four
    rw [hG]
    clear hm m1 m2 s1 r1 hG
    have HK := hid (K2.first w k y t l k' y' t' l' 46 46)
    go_enter Tryd.func29, Tryd.ntmps29
    go_wp2_with fail
    refine (cM _).mono ?_
    rintro e w1 ⟨rfl, hb⟩
    have hk := HK.out.next hb
    clear hb HK
    obtain ⟨⟨x0, x1, x2, x3, _⟩, ⟨y0, y1, y2, y3, _⟩, _⟩ := id hk
    go_wp2
    go_ret2
    exact ⟨rfl, hk.b⟩
set_option maxHeartbeats 2000000 in
theorem roverlap_any (k y t l k' y' t' l' : Int) (w : World) :
    Calls Tryd.prog 38 #[.agg #[.int .i64 k, .int .i64 y, .int .i64 t, .int .i64 l], .agg #[.int .i64 k', .int .i64 y', .int .i64 t', .int .i64 l']] w (Says (.bool (overB k y t l k' y' t' l')) w) := by
  have cB := fun w => rbetween_any k y t l k' y' t' l' w
  unfold Says overB at *
  generalize betM k y t l k' y' t' l' = R at cB ⊢
  obtain ⟨N, O⟩ := R
  dsimp only at cB ⊢
  cases O with
  | false =>
    have HK := hid (K2.first w k y t l k' y' t' l' 46 46)
    go_enter Tryd.func38, Tryd.ntmps38
    go_wp2_with fail
    refine (cB _).mono ?_
    rintro e w1 ⟨rfl, hb⟩
    have hk := HK.out.next hb
    clear hb HK
    obtain ⟨⟨x0, x1, x2, x3, _⟩, ⟨y0, y1, y2, y3, _⟩, _⟩ := id hk
    go_wp2
    go_ret
    exact ⟨rfl, hk.b⟩
  | true =>
    rw [Bool.true_and]
    by_cases hn : N < 0
    · have hnd : decide (N < 0) = true := decide_eq_true hn
      rw [hnd]
      have HK := hid (K2.first w k y t l k' y' t' l' 46 46)
      go_enter Tryd.func38, Tryd.ntmps38
      go_wp2_with fail
      refine (cB _).mono ?_
      rintro e w1 ⟨rfl, hb⟩
      have hk := HK.out.next hb
      clear hb HK
      obtain ⟨⟨x0, x1, x2, x3, _⟩, ⟨y0, y1, y2, y3, _⟩, _⟩ := id hk
      go_wp2
      go_ret
      exact ⟨rfl, hk.b⟩
    · have hnd : decide (N < 0) = false := decide_eq_false hn
      rw [hnd]
      have HK := hid (K2.first w k y t l k' y' t' l' 46 46)
      go_enter Tryd.func38, Tryd.ntmps38
      go_wp2_with fail
      refine (cB _).mono ?_
      rintro e w1 ⟨rfl, hb⟩
      have hk := HK.out.next hb
      clear hb HK
      obtain ⟨⟨x0, x1, x2, x3, _⟩, ⟨y0, y1, y2, y3, _⟩, _⟩ := id hk
      go_wp2
      go_ret
      exact ⟨rfl, hk.b⟩
set_option maxHeartbeats 4000000 in
set_option maxRecDepth 100000 in
theorem rbefore_any (k y t l k' y' t' l' : Int) (w : World) : Calls Tryd.prog 40 #[.agg #[.int .i64 k, .int .i64 y, .int .i64 t, .int .i64 l], .agg #[.int .i64 k', .int .i64 y', .int .i64 t', .int .i64 l']] w (Says (.bool (befB k y t l k' y' t' l')) w) := by
  have cS := fun w => rsound_any k y t l w
  have cS2 := fun w => rsound_any k' y' t' l' w
  unfold Says at cS cS2 ⊢
  cases hs : soundB k y t l with
  | false =>
    rw [bef_no (fun h => by rw [hs] at h; exact absurd h.1 (by simp))]
    rw [hs] at cS
    clear hs cS2
    have HK := hid (K2.first w k y t l k' y' t' l' 46 46)
    go_enter Tryd.func40, Tryd.ntmps40
    go_wp2_with fail
    refine (cS _).mono ?_
    rintro e w1 ⟨rfl, hb⟩
    have hk := HK.out.next hb
    clear hb HK
    obtain ⟨⟨x0, x1, x2, x3, _⟩, ⟨y0, y1, y2, y3, _⟩, _⟩ := id hk
    go_wp2
    go_ret
    exact ⟨rfl, hk.b⟩
  | true =>
    rw [hs] at cS
    obtain ⟨s1, s2, s3, s4, s5⟩ := sound_of hs
    cases hs2 : soundB k' y' t' l' with
    | false =>
      rw [bef_no (fun h => by rw [hs2] at h; exact absurd h.2.1 (by simp))]
      rw [hs2] at cS2
      clear hs hs2
      have HK := hid (K2.first w k y t l k' y' t' l' 46 46)
      go_enter Tryd.func40, Tryd.ntmps40
      go_wp2_with fail
      refine (cS _).mono ?_
      rintro e w1 ⟨rfl, hb⟩
      have hk := HK.out.next hb
      clear hb HK
      obtain ⟨⟨x0, x1, x2, x3, _⟩, ⟨y0, y1, y2, y3, _⟩, _⟩ := id hk
      go_wp2_with fail
      refine (cS2 _).mono ?_
      rintro e w1 ⟨rfl, hb⟩
      have hk := hk.next hb
      clear hb
      obtain ⟨⟨x0, x1, x2, x3, _⟩, ⟨y0, y1, y2, y3, _⟩, _⟩ := id hk
      go_wp2
      go_ret
      exact ⟨rfl, hk.b⟩
    | true =>
      rw [hs2] at cS2
      by_cases h1 : y < y'
      · have h1d : decide (y < y') = true := decide_eq_true h1
        rw [bef_yes ⟨hs, hs2, .inl h1⟩]
        clear hs hs2
        have HK := hid (K2.first w k y t l k' y' t' l' 46 46)
        go_enter Tryd.func40, Tryd.ntmps40
        go_wp2_with fail
        refine (cS _).mono ?_
        rintro e w1 ⟨rfl, hb⟩
        have hk := HK.out.next hb
        clear hb HK
        obtain ⟨⟨x0, x1, x2, x3, _⟩, ⟨y0, y1, y2, y3, _⟩, _⟩ := id hk
        go_wp2_with fail
        refine (cS2 _).mono ?_
        rintro e w1 ⟨rfl, hb⟩
        have hk := hk.next hb
        clear hb
        obtain ⟨⟨x0, x1, x2, x3, _⟩, ⟨y0, y1, y2, y3, _⟩, _⟩ := id hk
        go_wp2
        go_ret
        exact ⟨rfl, hk.b⟩
      · have h1d : decide (y < y') = false := decide_eq_false h1
        by_cases h2 : y = y'
        · by_cases h3 : t + l ≤ t'
          · have h3d : decide (t + l ≤ t') = true := decide_eq_true h3
            rw [bef_yes ⟨hs, hs2, .inr ⟨h2, h3⟩⟩]
            have h2d : (y == y') = true := by simpa using h2
            clear h2
            clear hs hs2
            have HK := hid (K2.first w k y t l k' y' t' l' 46 46)
            go_enter Tryd.func40, Tryd.ntmps40
            go_wp2_with fail
            refine (cS _).mono ?_
            rintro e w1 ⟨rfl, hb⟩
            have hk := HK.out.next hb
            clear hb HK
            obtain ⟨⟨x0, x1, x2, x3, _⟩, ⟨y0, y1, y2, y3, _⟩, _⟩ := id hk
            go_wp2_with fail
            refine (cS2 _).mono ?_
            rintro e w1 ⟨rfl, hb⟩
            have hk := hk.next hb
            clear hb
            obtain ⟨⟨x0, x1, x2, x3, _⟩, ⟨y0, y1, y2, y3, _⟩, _⟩ := id hk
            go_wp2
            go_ret
            exact ⟨rfl, hk.b⟩
          · have h3d : decide (t + l ≤ t') = false := decide_eq_false h3
            rw [bef_no (fun h => by exact h.2.2.elim h1 (fun h => h3 h.2))]
            have h2d : (y == y') = true := by simpa using h2
            clear h2
            clear hs hs2
            have HK := hid (K2.first w k y t l k' y' t' l' 46 46)
            go_enter Tryd.func40, Tryd.ntmps40
            go_wp2_with fail
            refine (cS _).mono ?_
            rintro e w1 ⟨rfl, hb⟩
            have hk := HK.out.next hb
            clear hb HK
            obtain ⟨⟨x0, x1, x2, x3, _⟩, ⟨y0, y1, y2, y3, _⟩, _⟩ := id hk
            go_wp2_with fail
            refine (cS2 _).mono ?_
            rintro e w1 ⟨rfl, hb⟩
            have hk := hk.next hb
            clear hb
            obtain ⟨⟨x0, x1, x2, x3, _⟩, ⟨y0, y1, y2, y3, _⟩, _⟩ := id hk
            go_wp2
            go_ret
            exact ⟨rfl, hk.b⟩
        · have h2d : (y == y') = false := by simpa using h2
          rw [bef_no (fun h => by exact h.2.2.elim h1 (fun h => h2 h.1))]
          clear hs hs2
          have HK := hid (K2.first w k y t l k' y' t' l' 46 46)
          go_enter Tryd.func40, Tryd.ntmps40
          go_wp2_with fail
          refine (cS _).mono ?_
          rintro e w1 ⟨rfl, hb⟩
          have hk := HK.out.next hb
          clear hb HK
          obtain ⟨⟨x0, x1, x2, x3, _⟩, ⟨y0, y1, y2, y3, _⟩, _⟩ := id hk
          go_wp2_with fail
          refine (cS2 _).mono ?_
          rintro e w1 ⟨rfl, hb⟩
          have hk := hk.next hb
          clear hb
          obtain ⟨⟨x0, x1, x2, x3, _⟩, ⟨y0, y1, y2, y3, _⟩, _⟩ := id hk
          go_wp2
          go_ret
          exact ⟨rfl, hk.b⟩
end Go.Proofs.YtaijbdknaeeoeaaDoor
