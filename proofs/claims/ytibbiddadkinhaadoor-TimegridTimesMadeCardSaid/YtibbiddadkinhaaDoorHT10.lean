/-
  How two times stand to each other, by the specification: meet, Between, Overlap, Before. Conditions: none.
  The walk of TimegridTimes: the program and the specification agree on Valid, Sound, Fits, Overlap, Between and Before. Conditions: the variables hold what their text lays; the starts are numbers of 64 bits.
  A slice of integers that came in: what they hold. Conditions: as the lemmas state.
-/
import Derived.Test.YtibbiddadkinhaaDoorHT01
import Derived.Test.YtibbiddadkinhaaDoorHT02
import Derived.Test.YtibbiddadkinhaaDoorHT03
import Derived.Test.YtibbiddadkinhaaDoorHT04
import Derived.Test.YtibbiddadkinhaaDoorHT05
import Derived.Test.YtibbiddadkinhaaDoorHT06
import Derived.Test.YtibbiddadkinhaaDoorHT07
import Derived.Test.YtibbiddadkinhaaDoorHT08
import Derived.Test.YtibbiddadkinhaaDoorHT09
import Derived.Test.YtibbiddadkinhaaDoorProg
import Derived.WalkKit
import Derived.WalkSpells
import Derived.WalkLawsBesides
import Derived.Lib.Hide
import Derived.Deep.QuietTactic
import Derived.BigQuiet
import Derived.Laws.Rows
import Derived.OwnWalk
import Derived.Lib.BufferWrite
import Derived.Lib.UnsafeStr
import Derived.Laws.IdiomStrings
import Derived.Laws.BytesArg
import Derived.Laws.BytesString
import Derived.Laws.OwnMore
import Derived.Lib.IndexLaws
import Derived.Lib.ItoaNum
import Derived.Lib.Atoi
import Derived.Deep.RegionLaw
import Derived.Deep.RegionHeld3
import Derived.Handy
import Derived.Laws.BitsAllLaws
import Derived.Laws.BitsLemmas
import Derived.Deep.MidRow
import Derived.Shelf.Strings.Builder1
import Derived.Shelf.Strings.Builder2
import Derived.Shelf.Strings.OnBuilder
import Derived.Shelf.Strings.BuilderF
import Derived.Shelf.Strings.BuilderK
import Derived.Shelf.Strings.Builder2Cap
import Derived.Shelf.Strconv.Atoi
import Derived.Shelf.Strconv.Itoa0
import Derived.Shelf.Strconv.Itoa1
import Derived.Shelf.LaysM
import Derived.Shelf.Strconv.Itoa2
import Derived.Shelf.Strconv.Itoa3
import Derived.Shelf.Strconv.AtoiErrFast
import Derived.Shelf.Strconv.ParseIntEmpty
import Derived.Shelf.Strconv.AtoiFail
import Derived.Shelf.Strconv.Clone
import Derived.Shelf.Strconv.SyntaxError
import Derived.Shelf.LaysC
import Derived.Shelf.Strconv.ToError
import Derived.Shelf.Strconv.AtoiErr
import Derived.Shelf.Strings.Search1
import Derived.Shelf.Strings.Search2
import Derived.Shelf.Strings.Search3
import Derived.Shelf.Strings.Cut
import Derived.Shelf.Strings.Shaped
import Derived.Shelf.Strings.Prefix
import Derived.Shelf.Unicode.DecodeSlow
import Derived.Shelf.Strings.BuilderCap
import Derived.Lib.AtoiErrMem
import Derived.RangeFuncNested
import Derived.RangeFuncBound
import Derived.RangeFuncCalls
import Derived.RangeFuncLeaves
import Derived.Shelf.Abstract
import Derived.Shelf.RegionOpen
import Derived.OwnWalkIn
import Derived.TacticsInMore
import Derived.LoopNIn
import Derived.LoopIn
import Derived.Laws.ResultCell
import Derived.BigRegion
import Derived.Deep.DeepCutAuto
import Derived.Deep.CutBlock
import Derived.Test.YtibbiddadkinhaaDoorCards
import Derived.Test.YtibbiddadkinhaaDoorTie
import Derived.Lib.SmallJoins
import Derived.SizedLaws
import Derived.Stop.LaidErr
import Derived.Deep.DeepWitnessRowRef
import Derived.ProofKit
import Derived.OpenShut
import Derived.Deep.DeepHandedRow
import Derived.Deep.DeepLaidRun
import Derived.Lib.LaidU8
import Derived.Shelf.Vars
import Derived.Laws.IdiomArrays
set_option linter.unusedVariables false
namespace Go.Proofs.YtibbiddadkinhaaDoor
open Go Go.Proofs Go.RowKit Go.Lib

set_option maxHeartbeats 4000000 in
set_option maxRecDepth 100000 in
theorem rmeet_any (k y t l k' y' t' l' : Int) (w : World) : Calls Tryd.prog 31 #[.agg #[.int .i64 k, .int .i64 y, .int .i64 t, .int .i64 l], .agg #[.int .i64 k', .int .i64 y', .int .i64 t', .int .i64 l']] w (Says (.bool (meetB k y t l k' y' t' l')) w) := by
  have cS := fun w => rsound_any k y t l w
  have cS2 := fun w => rsound_any k' y' t' l' w
  unfold Says at cS cS2 ⊢
  cases hs : soundB k y t l with
  | false =>
    rw [show meetB k y t l k' y' t' l' = false from decide_eq_false (fun h => by rw [hs] at h; exact absurd h.1 (by simp))]
    rw [hs] at cS
    clear hs cS2
    have HK := hid (K2.first w k y t l k' y' t' l' 25 25)
    go_enter Tryd.func31, Tryd.ntmps31
    go_wp2_with fail
    refine (cS _).mono ?_
    rintro e w1 ⟨rfl, hb⟩
    have hk := HK.out.next hb
    clear hb HK
    obtain ⟨⟨x0, x1, x2, x3, _⟩, ⟨y0, y1, y2, y3, _⟩, _⟩ := id hk
    go_wp2
    go_ret
    exact ⟨rfl, hk.b⟩
  | true =>
    rw [hs] at cS
    cases hs2 : soundB k' y' t' l' with
    | false =>
      rw [show meetB k y t l k' y' t' l' = false from decide_eq_false (fun h => by rw [hs2] at h; exact absurd h.2.1 (by simp))]
      rw [hs2] at cS2
      clear hs hs2
      have HK := hid (K2.first w k y t l k' y' t' l' 25 25)
      go_enter Tryd.func31, Tryd.ntmps31
      go_wp2_with fail
      refine (cS _).mono ?_
      rintro e w1 ⟨rfl, hb⟩
      have hk := HK.out.next hb
      clear hb HK
      obtain ⟨⟨x0, x1, x2, x3, _⟩, ⟨y0, y1, y2, y3, _⟩, _⟩ := id hk
      go_wp2_with fail
      refine (cS2 _).mono ?_
      rintro e w1 ⟨rfl, hb⟩
      have hk := hk.next hb
      clear hb
      obtain ⟨⟨x0, x1, x2, x3, _⟩, ⟨y0, y1, y2, y3, _⟩, _⟩ := id hk
      go_wp2
      go_ret
      exact ⟨rfl, hk.b⟩
    | true =>
      rw [hs2] at cS2
      by_cases hw : bits .and .i64 k k' = 0
      · rw [show meetB k y t l k' y' t' l' = false from decide_eq_false (fun h => h.2.2.1 hw)]
        clear hs hs2
        have HK := hid (K2.first w k y t l k' y' t' l' 25 25)
        go_enter Tryd.func31, Tryd.ntmps31
        go_wp2_with fail
        refine (cS _).mono ?_
        rintro e w1 ⟨rfl, hb⟩
        have hk := HK.out.next hb
        clear hb HK
        obtain ⟨⟨x0, x1, x2, x3, _⟩, ⟨y0, y1, y2, y3, _⟩, _⟩ := id hk
        go_wp2_with fail
        refine (cS2 _).mono ?_
        rintro e w1 ⟨rfl, hb⟩
        have hk := hk.next hb
        clear hb
        obtain ⟨⟨x0, x1, x2, x3, _⟩, ⟨y0, y1, y2, y3, _⟩, _⟩ := id hk
        go_wp2
        go_ret
        exact ⟨rfl, hk.b⟩
      · have hwd : (bits .and .i64 k k' != 0) = true := by simpa using hw
        by_cases hy : y = y'
        · rw [show meetB k y t l k' y' t' l' = true from decide_eq_true ⟨hs, hs2, hw, hy⟩]
          have hyd : (y == y') = true := by simpa using hy
          clear hs hs2 hw hy
          have HK := hid (K2.first w k y t l k' y' t' l' 25 25)
          go_enter Tryd.func31, Tryd.ntmps31
          go_wp2_with fail
          refine (cS _).mono ?_
          rintro e w1 ⟨rfl, hb⟩
          have hk := HK.out.next hb
          clear hb HK
          obtain ⟨⟨x0, x1, x2, x3, _⟩, ⟨y0, y1, y2, y3, _⟩, _⟩ := id hk
          go_wp2_with fail
          refine (cS2 _).mono ?_
          rintro e w1 ⟨rfl, hb⟩
          have hk := hk.next hb
          clear hb
          obtain ⟨⟨x0, x1, x2, x3, _⟩, ⟨y0, y1, y2, y3, _⟩, _⟩ := id hk
          go_wp2
          go_ret
          exact ⟨rfl, hk.b⟩
        · have hyd : (y == y') = false := by simpa using hy
          rw [show meetB k y t l k' y' t' l' = false from decide_eq_false (fun h => hy h.2.2.2)]
          clear hs hs2 hw
          have HK := hid (K2.first w k y t l k' y' t' l' 25 25)
          go_enter Tryd.func31, Tryd.ntmps31
          go_wp2_with fail
          refine (cS _).mono ?_
          rintro e w1 ⟨rfl, hb⟩
          have hk := HK.out.next hb
          clear hb HK
          obtain ⟨⟨x0, x1, x2, x3, _⟩, ⟨y0, y1, y2, y3, _⟩, _⟩ := id hk
          go_wp2_with fail
          refine (cS2 _).mono ?_
          rintro e w1 ⟨rfl, hb⟩
          have hk := hk.next hb
          clear hb
          obtain ⟨⟨x0, x1, x2, x3, _⟩, ⟨y0, y1, y2, y3, _⟩, _⟩ := id hk
          go_wp2
          go_ret
          exact ⟨rfl, hk.b⟩
set_option maxHeartbeats 4000000 in
set_option maxRecDepth 100000 in
theorem rbetween_any (k y t l k' y' t' l' : Int) (w : World) : Calls Tryd.prog 8 #[.agg #[.int .i64 k, .int .i64 y, .int .i64 t, .int .i64 l], .agg #[.int .i64 k', .int .i64 y', .int .i64 t', .int .i64 l']] w (Says (.tuple #[.int .i64 (betM k y t l k' y' t' l').1, .bool (betM k y t l k' y' t' l').2]) w) := by
  have cM := fun w => rmeet_any k y t l k' y' t' l' w
  unfold Says at cM ⊢
  unfold betM
  cases hm : meetB k y t l k' y' t' l' with
  | false =>
    rw [if_neg (by simp)]
    rw [hm] at cM
    clear hm
    have HK := hid (K2.first w k y t l k' y' t' l' 25 25)
    go_enter Tryd.func8, Tryd.ntmps8
    go_wp2_with fail
    refine (cM _).mono ?_
    rintro e w1 ⟨rfl, hb⟩
    have hk := HK.out.next hb
    clear hb HK
    obtain ⟨⟨x0, x1, x2, x3, _⟩, ⟨y0, y1, y2, y3, _⟩, _⟩ := id hk
    go_wp2
    go_ret2
    exact ⟨rfl, hk.b⟩
  | true =>
    rw [if_pos rfl]
    rw [hm] at cM
    obtain ⟨m1, m2, -, -⟩ : soundB k y t l = true ∧ soundB k' y' t' l' = true ∧ bits .and .i64 k k' ≠ 0 ∧ y = y' := of_decide_eq_true hm
    obtain ⟨s1, s2, s3, s4, s5⟩ := sound_of m1
    obtain ⟨r1, r2, r3, r4, r5⟩ := sound_of m2
    have four : ∃ D, max t t' - min (t + l) (t' + l') = D ∧ gapI t l t' l' = max D (-1) ∧ IntKind.i64.wrap D = D := by
      refine ⟨_, rfl, rfl, IntWalk.i64_in _ ?_⟩
      omega
    obtain ⟨D, hD, hG, hWD⟩ := four
    rw [hG]
    clear hm m1 m2 s1 r1 hG
    have HK := hid (K2.first w k y t l k' y' t' l' 25 25)
    go_enter Tryd.func8, Tryd.ntmps8
    go_wp2_with fail
    refine (cM _).mono ?_
    rintro e w1 ⟨rfl, hb⟩
    have hk := HK.out.next hb
    clear hb HK
    obtain ⟨⟨x0, x1, x2, x3, _⟩, ⟨y0, y1, y2, y3, _⟩, _⟩ := id hk
    go_wp2
    go_ret2
    exact ⟨rfl, hk.b⟩
set_option maxHeartbeats 2000000 in
theorem roverlap_any (k y t l k' y' t' l' : Int) (w : World) :
    Calls Tryd.prog 17 #[.agg #[.int .i64 k, .int .i64 y, .int .i64 t, .int .i64 l], .agg #[.int .i64 k', .int .i64 y', .int .i64 t', .int .i64 l']] w (Says (.bool (overB k y t l k' y' t' l')) w) := by
  have cB := fun w => rbetween_any k y t l k' y' t' l' w
  unfold Says overB at *
  generalize betM k y t l k' y' t' l' = R at cB ⊢
  obtain ⟨N, O⟩ := R
  dsimp only at cB ⊢
  cases O with
  | false =>
    have HK := hid (K2.first w k y t l k' y' t' l' 25 25)
    go_enter Tryd.func17, Tryd.ntmps17
    go_wp2_with fail
    refine (cB _).mono ?_
    rintro e w1 ⟨rfl, hb⟩
    have hk := HK.out.next hb
    clear hb HK
    obtain ⟨⟨x0, x1, x2, x3, _⟩, ⟨y0, y1, y2, y3, _⟩, _⟩ := id hk
    go_wp2
    go_ret
    exact ⟨rfl, hk.b⟩
  | true =>
    rw [Bool.true_and]
    by_cases hn : N < 0
    · have hnd : decide (N < 0) = true := decide_eq_true hn
      rw [hnd]
      have HK := hid (K2.first w k y t l k' y' t' l' 25 25)
      go_enter Tryd.func17, Tryd.ntmps17
      go_wp2_with fail
      refine (cB _).mono ?_
      rintro e w1 ⟨rfl, hb⟩
      have hk := HK.out.next hb
      clear hb HK
      obtain ⟨⟨x0, x1, x2, x3, _⟩, ⟨y0, y1, y2, y3, _⟩, _⟩ := id hk
      go_wp2
      go_ret
      exact ⟨rfl, hk.b⟩
    · have hnd : decide (N < 0) = false := decide_eq_false hn
      rw [hnd]
      have HK := hid (K2.first w k y t l k' y' t' l' 25 25)
      go_enter Tryd.func17, Tryd.ntmps17
      go_wp2_with fail
      refine (cB _).mono ?_
      rintro e w1 ⟨rfl, hb⟩
      have hk := HK.out.next hb
      clear hb HK
      obtain ⟨⟨x0, x1, x2, x3, _⟩, ⟨y0, y1, y2, y3, _⟩, _⟩ := id hk
      go_wp2
      go_ret
      exact ⟨rfl, hk.b⟩
set_option maxHeartbeats 4000000 in
set_option maxRecDepth 100000 in
theorem rbefore_any (k y t l k' y' t' l' : Int) (w : World) : Calls Tryd.prog 19 #[.agg #[.int .i64 k, .int .i64 y, .int .i64 t, .int .i64 l], .agg #[.int .i64 k', .int .i64 y', .int .i64 t', .int .i64 l']] w (Says (.bool (befB k y t l k' y' t' l')) w) := by
  have cS := fun w => rsound_any k y t l w
  have cS2 := fun w => rsound_any k' y' t' l' w
  unfold Says at cS cS2 ⊢
  cases hs : soundB k y t l with
  | false =>
    rw [bef_no (fun h => by rw [hs] at h; exact absurd h.1 (by simp))]
    rw [hs] at cS
    clear hs cS2
    have HK := hid (K2.first w k y t l k' y' t' l' 25 25)
    go_enter Tryd.func19, Tryd.ntmps19
    go_wp2_with fail
    refine (cS _).mono ?_
    rintro e w1 ⟨rfl, hb⟩
    have hk := HK.out.next hb
    clear hb HK
    obtain ⟨⟨x0, x1, x2, x3, _⟩, ⟨y0, y1, y2, y3, _⟩, _⟩ := id hk
    go_wp2
    go_ret
    exact ⟨rfl, hk.b⟩
  | true =>
    rw [hs] at cS
    obtain ⟨s1, s2, s3, s4, s5⟩ := sound_of hs
    cases hs2 : soundB k' y' t' l' with
    | false =>
      rw [bef_no (fun h => by rw [hs2] at h; exact absurd h.2.1 (by simp))]
      rw [hs2] at cS2
      clear hs hs2
      have HK := hid (K2.first w k y t l k' y' t' l' 25 25)
      go_enter Tryd.func19, Tryd.ntmps19
      go_wp2_with fail
      refine (cS _).mono ?_
      rintro e w1 ⟨rfl, hb⟩
      have hk := HK.out.next hb
      clear hb HK
      obtain ⟨⟨x0, x1, x2, x3, _⟩, ⟨y0, y1, y2, y3, _⟩, _⟩ := id hk
      go_wp2_with fail
      refine (cS2 _).mono ?_
      rintro e w1 ⟨rfl, hb⟩
      have hk := hk.next hb
      clear hb
      obtain ⟨⟨x0, x1, x2, x3, _⟩, ⟨y0, y1, y2, y3, _⟩, _⟩ := id hk
      go_wp2
      go_ret
      exact ⟨rfl, hk.b⟩
    | true =>
      rw [hs2] at cS2
      by_cases h1 : y < y'
      · have h1d : decide (y < y') = true := decide_eq_true h1
        rw [bef_yes ⟨hs, hs2, .inl h1⟩]
        clear hs hs2
        have HK := hid (K2.first w k y t l k' y' t' l' 25 25)
        go_enter Tryd.func19, Tryd.ntmps19
        go_wp2_with fail
        refine (cS _).mono ?_
        rintro e w1 ⟨rfl, hb⟩
        have hk := HK.out.next hb
        clear hb HK
        obtain ⟨⟨x0, x1, x2, x3, _⟩, ⟨y0, y1, y2, y3, _⟩, _⟩ := id hk
        go_wp2_with fail
        refine (cS2 _).mono ?_
        rintro e w1 ⟨rfl, hb⟩
        have hk := hk.next hb
        clear hb
        obtain ⟨⟨x0, x1, x2, x3, _⟩, ⟨y0, y1, y2, y3, _⟩, _⟩ := id hk
        go_wp2
        go_ret
        exact ⟨rfl, hk.b⟩
      · have h1d : decide (y < y') = false := decide_eq_false h1
        by_cases h2 : y = y'
        · by_cases h3 : t + l ≤ t'
          · have h3d : decide (t + l ≤ t') = true := decide_eq_true h3
            rw [bef_yes ⟨hs, hs2, .inr ⟨h2, h3⟩⟩]
            have h2d : (y == y') = true := by simpa using h2
            clear h2
            clear hs hs2
            have HK := hid (K2.first w k y t l k' y' t' l' 25 25)
            go_enter Tryd.func19, Tryd.ntmps19
            go_wp2_with fail
            refine (cS _).mono ?_
            rintro e w1 ⟨rfl, hb⟩
            have hk := HK.out.next hb
            clear hb HK
            obtain ⟨⟨x0, x1, x2, x3, _⟩, ⟨y0, y1, y2, y3, _⟩, _⟩ := id hk
            go_wp2_with fail
            refine (cS2 _).mono ?_
            rintro e w1 ⟨rfl, hb⟩
            have hk := hk.next hb
            clear hb
            obtain ⟨⟨x0, x1, x2, x3, _⟩, ⟨y0, y1, y2, y3, _⟩, _⟩ := id hk
            go_wp2
            go_ret
            exact ⟨rfl, hk.b⟩
          · have h3d : decide (t + l ≤ t') = false := decide_eq_false h3
            rw [bef_no (fun h => by exact h.2.2.elim h1 (fun h => h3 h.2))]
            have h2d : (y == y') = true := by simpa using h2
            clear h2
            clear hs hs2
            have HK := hid (K2.first w k y t l k' y' t' l' 25 25)
            go_enter Tryd.func19, Tryd.ntmps19
            go_wp2_with fail
            refine (cS _).mono ?_
            rintro e w1 ⟨rfl, hb⟩
            have hk := HK.out.next hb
            clear hb HK
            obtain ⟨⟨x0, x1, x2, x3, _⟩, ⟨y0, y1, y2, y3, _⟩, _⟩ := id hk
            go_wp2_with fail
            refine (cS2 _).mono ?_
            rintro e w1 ⟨rfl, hb⟩
            have hk := hk.next hb
            clear hb
            obtain ⟨⟨x0, x1, x2, x3, _⟩, ⟨y0, y1, y2, y3, _⟩, _⟩ := id hk
            go_wp2
            go_ret
            exact ⟨rfl, hk.b⟩
        · have h2d : (y == y') = false := by simpa using h2
          rw [bef_no (fun h => by exact h.2.2.elim h1 (fun h => h2 h.1))]
          clear hs hs2
          have HK := hid (K2.first w k y t l k' y' t' l' 25 25)
          go_enter Tryd.func19, Tryd.ntmps19
          go_wp2_with fail
          refine (cS _).mono ?_
          rintro e w1 ⟨rfl, hb⟩
          have hk := HK.out.next hb
          clear hb HK
          obtain ⟨⟨x0, x1, x2, x3, _⟩, ⟨y0, y1, y2, y3, _⟩, _⟩ := id hk
          go_wp2_with fail
          refine (cS2 _).mono ?_
          rintro e w1 ⟨rfl, hb⟩
          have hk := hk.next hb
          clear hb
          obtain ⟨⟨x0, x1, x2, x3, _⟩, ⟨y0, y1, y2, y3, _⟩, _⟩ := id hk
          go_wp2
          go_ret
          exact ⟨rfl, hk.b⟩
end Go.Proofs.YtibbiddadkinhaaDoor

set_option linter.unusedVariables false
namespace Go.Proofs.YtibbiddadkinhaaDoor
open Go Go.Proofs Go.RowKit Go.Lib

/-- What is kept while the statement's calls run: the grid's box, the two times. -/
structure Keep (w0 : World) (d s b m : Int) (a c : Nat) (k y t l k' y' t' l' : Int) (w : World) : Prop where
  g : Box4 w w0.heap.size d s b m
  x : Box4 w a k y t l
  y : Box4 w c k' y' t' l'
  b : Below w0.heap.size w0 w
section
variable {w0 w w' : World} {d s b m : Int} {a c : Nat} {k y t l k' y' t' l' : Int}
theorem Keep.next (h : Keep w0 d s b m a c k y t l k' y' t' l' w) (q : Below w.heap.size w w') : Keep w0 d s b m a c k y t l k' y' t' l' w' :=
  ⟨h.g.next q h.g.lt, h.x.next q h.x.lt, h.y.next q h.y.lt, h.b.trans (q.mono h.b.size)⟩
theorem Keep.drew (h : Keep w0 d s b m a c k y t l k' y' t' l' w) : Keep w0 d s b m a c k y t l k' y' t' l' w.drew := h.next (Below.refl _ w).drew
end
/-- The boxes as they are made. -/
theorem boxes3 (w : World) (d s b m k y t l k' y' t' l' : Int) (o : Obj) (T T' : TypeId) (W : World) (hW : W = ((((w.alloc (.cells #[.int .i64 d, .int .i64 s, .int .i64 b, .int .i64 m] T)).alloc o).alloc (.cells #[.int .i64 k, .int .i64 y, .int .i64 t, .int .i64 l] T')).alloc (.cells #[.int .i64 k', .int .i64 y', .int .i64 t', .int .i64 l'] T')).drew) :
    Box4 W w.heap.size d s b m ∧ Box4 W (w.heap.size + 1 + 1) k y t l ∧ Box4 W (w.heap.size + 1 + 1 + 1) k' y' t' l' ∧ Below w.heap.size w W := by
  subst hW
  have h1 := K1.first w d s b m T
  have hs : (w.alloc (.cells #[.int .i64 d, .int .i64 s, .int .i64 b, .int .i64 m] T)).heap.size = w.heap.size + 1 := by simp
  generalize w.alloc (.cells #[.int .i64 d, .int .i64 s, .int .i64 b, .int .i64 m] T) = w1 at h1 hs ⊢
  have h2 := h1.next ((Below.refl _ w1).alloc (Nat.le_refl _) o)
  have hs2 : (w1.alloc o).heap.size = w.heap.size + 1 + 1 := by simp [hs]
  generalize w1.alloc o = w2 at h2 hs2 ⊢
  have h3 := h2.next ((Below.refl _ w2).alloc (Nat.le_refl _) (.cells #[.int .i64 k, .int .i64 y, .int .i64 t, .int .i64 l] T'))
  have x3 := Box4.new w2 k y t l T'
  have hs3 : (w2.alloc (.cells #[.int .i64 k, .int .i64 y, .int .i64 t, .int .i64 l] T')).heap.size = w.heap.size + 1 + 1 + 1 := by simp [hs2]
  generalize w2.alloc (.cells #[.int .i64 k, .int .i64 y, .int .i64 t, .int .i64 l] T') = w3 at h3 x3 hs3 ⊢
  have hb := (Below.refl _ w3).alloc (Nat.le_refl _) (.cells #[.int .i64 k', .int .i64 y', .int .i64 t', .int .i64 l'] T')
  have h4 := (h3.next hb).drew
  have x4 := x3.next hb x3.lt
  have y4 := Box4.new w3 k' y' t' l' T'
  rw [hs2] at x4
  rw [hs3] at y4
  generalize w3.alloc (.cells #[.int .i64 k', .int .i64 y', .int .i64 t', .int .i64 l'] T') = w4 at h4 x4 y4 ⊢
  have hd := (Below.refl w4.heap.size w4).drew
  exact ⟨h4.x, x4.next hd x4.lt, y4.next hd y4.lt, h4.b⟩
set_option maxHeartbeats 8000000 in
set_option maxRecDepth 100000 in
theorem times_any (d s b m n k y t l k' y' t' l' : Int) (ht : t ≤ 9223372036854775807) (ht' : t' ≤ 9223372036854775807) (w : World) (hE : Env w) (hDy : Days w) :
    Calls Tryd.prog 3 #[.agg #[.int .i64 d, .int .i64 s, .int .i64 b, .int .i64 m], .int .i64 n, .agg #[.int .i64 k, .int .i64 y, .int .i64 t, .int .i64 l, .int .i64 k', .int .i64 y', .int .i64 t', .int .i64 l']] w fun e w' => e = .returned (.bool true) ∧ Below w.heap.size w w' := by
  have hsz := hE.size
  have cK := hid (fun w' (hb : Below w.heap.size w w') => tawake_any w' (hE.below hb hsz) (hDy.below hb hsz))
  have cB := fun w => between_any k y t l k' y' t' l' ht ht' w
  have cB' := fun w => rbetween_any k y t l k' y' t' l' w
  have cV := fun w => gvalid_any d s b m w
  have cV' := fun w => rgvalid_any d s b m w
  have cS := fun w => sound_any k y t l ht w
  have cS' := fun w => rsound_any k y t l w
  have cF := fun w => fits_any d s b m n k y t l ht w
  have cF' := fun w => rfits_any d s b m n k y t l w
  have cO := fun w => overlap_any k y t l k' y' t' l' ht ht' w
  have cO' := fun w => roverlap_any k y t l k' y' t' l' w
  have cP := fun w => before_any k y t l k' y' t' l' ht ht' w
  have cP' := fun w => rbefore_any k y t l k' y' t' l' w
  unfold Says at cB cB' cV cV' cS cS' cF cF' cO cO' cP cP'
  have cK' := cK.out
  unfold Says at cK'
  have cK := hid cK'
  obtain ⟨⟨N, O⟩, hR⟩ : ∃ R, betM k y t l k' y' t' l' = R := ⟨_, rfl⟩
  rw [hR] at cB cB'
  dsimp only at cB cB'
  generalize (if gridB d s b m = true then (0 : Int) else 3) = v1 at cV cV'
  generalize soundB k y t l = v2 at cS cS'
  generalize fitsM d s b m n k y t l = v3 at cF cF'
  generalize overB k y t l k' y' t' l' = v4 at cO cO'
  generalize befB k y t l k' y' t' l' = v5 at cP cP'
  clear hR cK' hE hDy
  go_enter Tryd.func3, Tryd.ntmps3
  go_wp2_with fail
  go_cut [7, 8] (fun v7 v8 wx => ∃ a c : Nat, v7 = .pointer (some ⟨a, 0, none⟩) ∧ v8 = .pointer (some ⟨c, 0, none⟩) ∧ Keep w d s b m a c k y t l k' y' t' l' wx)
  case first =>
    go_region
    all_goals (go_wp2_with fail; go_meet)
    all_goals first
      | (obtain ⟨q1, q2, q3, q4⟩ := boxes3 w d s b m k y t l k' y' t' l' _ _ _ _ rfl
         exact ⟨_, _, rfl, rfl, q1, q2, q3, q4⟩)
      | (obtain ⟨q1, q2, q3, q4⟩ := boxes3 w d s b m k' y' t' l' k y t l _ _ _ _ rfl
         exact ⟨_, _, rfl, rfl, q1, q3, q2, q4⟩)
  case rest =>
    obtain ⟨a, c, rfl, rfl, hk⟩ := hcut
    obtain ⟨⟨g0, g1, g2, g3, _⟩, ⟨x0, x1, x2, x3, _⟩, ⟨y0, y1, y2, y3, _⟩, _⟩ := id hk
    go_wp2_with fail
    refine (cB _).mono ?_
    rintro e w1 ⟨rfl, hb⟩
    have hk := hk.next hb
    clear hb
    obtain ⟨⟨g0, g1, g2, g3, _⟩, ⟨x0, x1, x2, x3, _⟩, ⟨y0, y1, y2, y3, _⟩, _⟩ := id hk
    go_wp2_with fail
    refine (cB' _).mono ?_
    rintro e w2 ⟨rfl, hb⟩
    have hk := hk.next hb
    have hk' := hk.drew
    clear hb hk cB cB'
    obtain ⟨⟨g0, g1, g2, g3, _⟩, ⟨x0, x1, x2, x3, _⟩, ⟨y0, y1, y2, y3, _⟩, _⟩ := id hk'
    go_wp2_with fail
    go_region_held3 (fun w' => (w'.cell? ⟨w.heap.size, 0, none⟩ = some (.int .i64 d) ∧ w'.cell? ⟨w.heap.size, 1, none⟩ = some (.int .i64 s) ∧ w'.cell? ⟨w.heap.size, 2, none⟩ = some (.int .i64 b) ∧ w'.cell? ⟨w.heap.size, 3, none⟩ = some (.int .i64 m)) ∧ (w'.cell? ⟨a, 0, none⟩ = some (.int .i64 k) ∧ w'.cell? ⟨a, 1, none⟩ = some (.int .i64 y) ∧ w'.cell? ⟨a, 2, none⟩ = some (.int .i64 t) ∧ w'.cell? ⟨a, 3, none⟩ = some (.int .i64 l)) ∧ w'.cell? ⟨c, 0, none⟩ = some (.int .i64 k') ∧ w'.cell? ⟨c, 1, none⟩ = some (.int .i64 y') ∧ w'.cell? ⟨c, 2, none⟩ = some (.int .i64 t') ∧ w'.cell? ⟨c, 3, none⟩ = some (.int .i64 l'))
      (first | exact ⟨⟨hk'.g.c0, hk'.g.c1, hk'.g.c2, hk'.g.c3⟩, ⟨hk'.x.c0, hk'.x.c1, hk'.x.c2, hk'.x.c3⟩, hk'.y.c0, hk'.y.c1, hk'.y.c2, hk'.y.c3⟩)
      (first
      | (go_at_call 9; refine (cK.out _ hk'.b).mono ?_; rintro e w' ⟨rfl, hb⟩; have hk' := hk'.next hb)
      | (go_at_call 10; refine (cV _).mono ?_; rintro e w' ⟨rfl, hb⟩; have hk' := hk'.next hb)
      | (go_at_call 11; refine (cV' _).mono ?_; rintro e w' ⟨rfl, hb⟩; have hk' := hk'.next hb)
      | (go_at_call 12; refine (cS _).mono ?_; rintro e w' ⟨rfl, hb⟩; have hk' := hk'.next hb)
      | (go_at_call 13; refine (cS' _).mono ?_; rintro e w' ⟨rfl, hb⟩; have hk' := hk'.next hb)
      | (go_at_call 14; refine (cF _).mono ?_; rintro e w' ⟨rfl, hb⟩; have hk' := hk'.next hb)
      | (go_at_call 15; refine (cF' _).mono ?_; rintro e w' ⟨rfl, hb⟩; have hk' := hk'.next hb)
      | (go_at_call 16; refine (cO _).mono ?_; rintro e w' ⟨rfl, hb⟩; have hk' := hk'.next hb)
      | (go_at_call 17; refine (cO' _).mono ?_; rintro e w' ⟨rfl, hb⟩; have hk' := hk'.next hb)
      | (go_at_call 18; refine (cP _).mono ?_; rintro e w' ⟨rfl, hb⟩; have hk' := hk'.next hb)
      | (go_at_call 19; refine (cP' _).mono ?_; rintro e w' ⟨rfl, hb⟩; have hk' := hk'.next hb))
    all_goals go_wp2
    all_goals go_ret
    all_goals exact ⟨rfl, hk'.b⟩
end Go.Proofs.YtibbiddadkinhaaDoor

set_option linter.unusedVariables false
set_option maxRecDepth 100000
namespace Go.Proofs.YtibbiddadkinhaaDoor
open Go Go.Proofs Go.ChangeShapes Go.WideShapes Go.ChangeAt Go.RowKit

theorem cells3 : Tryd.prog.cellsOf 3 = 1 := by kernel_rfl
section
variable {H : Type} {enc : TypeId × Value → H}
theorem cells46 : Tryd.prog.cellsOf 25 = 4 := by kernel_rfl
theorem open_four {T : TypeId} {W : World} {base : Nat} {v : Value} {d : DataW H} {p : List MemPlace} {f0 f1 f2 f3 : Field} (hs : Tryd.prog.underlying T = some (.struct #[f0, f1, f2, f3])) (hone : Go.Deep.oneCellFields Tryd.prog #[f0, f1, f2, f3] = true) (hC : Tryd.prog.cellsOf T = 4)
    (h0 : f0.type = 3) (h1 : f1.type = 3) (h2 : f2.type = 3) (h3 : f3.type = 3) (hv : Value.okWide Tryd.prog W .any base T v) (h : DataW.Trod enc Tryd.prog W 0 (fun _ => true) true T v d p) :
    ∃ a b x z : Int, v = .agg #[.int .i64 a, .int .i64 b, .int .i64 x, .int .i64 z] ∧ x ≤ 9223372036854775807 := by
  obtain ⟨v0, v1, v2, v3, y0, y1, y2, y3, n, rfl, rfl, rfl, t0, t1, t2, t3⟩ := Joins.open_agg4 hs hone hC hv h
  rw [h0] at t0
  rw [h1] at t1
  rw [h2] at t2
  rw [h3] at t3
  obtain ⟨x0, e0, rfl, w0⟩ := DataW.trod_int Tryd.underlying3 t0
  obtain ⟨x1, e1, rfl, w1⟩ := DataW.trod_int Tryd.underlying3 t1
  obtain ⟨x2, e2, rfl, w2⟩ := DataW.trod_int Tryd.underlying3 t2
  obtain ⟨x3, e3, rfl, w3⟩ := DataW.trod_int Tryd.underlying3 t3
  simp at e0 e1 e2 e3
  subst e0 e1 e2 e3
  exact ⟨x0, x1, x2, x3, rfl, (bounds_i64 w2).2⟩
theorem open_grid {W : World} {base : Nat} {v : Value} {d : DataW H} {p : List MemPlace} (hv : Value.okWide Tryd.prog W .any base 23 v) (h : DataW.Trod enc Tryd.prog W 0 (fun _ => true) true 23 v d p) :
    ∃ a b x z : Int, v = .agg #[.int .i64 a, .int .i64 b, .int .i64 x, .int .i64 z] ∧ x ≤ 9223372036854775807 :=
  open_four Tryd.underlying23 (by kernel_rfl) (by kernel_rfl) rfl rfl rfl rfl hv h
theorem time_cells {w : World} {base : Nat} {sp : Nat → Bool} {held : Bool} {fuel : Nat} {cs : List Value} {x : DataW H × List MemPlace} (h : DataW.trod enc Tryd.prog w base sp held fuel 25 cs = some x) :
    ∃ k y t l : Int, cs = [.int .i64 k, .int .i64 y, .int .i64 t, .int .i64 l] ∧ t ≤ 9223372036854775807 := by
  obtain ⟨y0, y1, y2, y3, n, hx, hl, h0, h1, h2, h3⟩ := Joins.trod_struct4 Tryd.underlying25 h
  rw [cells46] at hl
  dsimp only at h0 h1 h2 h3
  rw [cells3] at h0 h1 h2 h3
  obtain ⟨z0, hc0, _, _⟩ := DataW.trod_int Tryd.underlying3 h0
  obtain ⟨z1, hc1, _, _⟩ := DataW.trod_int Tryd.underlying3 h1
  obtain ⟨z2, hc2, _, b2⟩ := DataW.trod_int Tryd.underlying3 h2
  obtain ⟨z3, hc3, _, _⟩ := DataW.trod_int Tryd.underlying3 h3
  refine ⟨z0, z1, z2, z3, ?_, (bounds_i64 b2).2⟩
  match cs, hl with
  | [c0, c1, c2, c3], _ =>
    have := take1 hc0
    have := take1 hc1
    have := take1 hc2
    have := take1 hc3
    simp_all
theorem trod_agg {P : Program} {w : World} {base : Nat} {sp : Nat → Bool} {held : Bool} {fuel : Nat} {t e : TypeId} {n : Nat} {cs : List Value} {d : DataW H} {p : List MemPlace} (ht : P.underlying t = some (.array n e)) (h : DataW.trod enc P w base sp held fuel t cs = some (d, p)) : ∃ ds, d = .agg ds := by
  cases fuel with
  | zero => simp [DataW.trod] at h
  | succ fuel =>
    simp only [DataW.trod, ht] at h
    split at h
    · obtain ⟨xs, hm, hx⟩ := Option.map_eq_some_iff.1 h
      injection hx with h1 h2
      exact ⟨_, h1.symm⟩
    · simp at h
/-- Two times that came in. -/
theorem open_times {W : World} {base : Nat} {v : Value} {d : DataW H} {p : List MemPlace} (hv : Value.okWide Tryd.prog W .any base 26 v) (h : DataW.Trod enc Tryd.prog W 0 (fun _ => true) true 26 v d p) :
    ∃ k y t l k' y' t' l' : Int, v = .agg #[.int .i64 k, .int .i64 y, .int .i64 t, .int .i64 l, .int .i64 k', .int .i64 y', .int .i64 t', .int .i64 l'] ∧ t ≤ 9223372036854775807 ∧ t' ≤ 9223372036854775807 := by
  obtain ⟨cs, rfl, hsz, _⟩ : ∃ cs, v = .agg cs ∧ cs.size = Tryd.prog.cellsOf 26 ∧ Row.okWide Tryd.prog W .any base 26 cs := by simpa [Value.okWide, Tryd.underlying26] using hv
  rw [show Tryd.prog.cellsOf 26 = 8 by kernel_rfl] at hsz
  obtain ⟨l⟩ := cs
  obtain ⟨fuel, hf⟩ := h
  obtain ⟨ds, rfl⟩ := trod_agg Tryd.underlying26 hf
  obtain ⟨fa, da, qa, _, ha⟩ := Lib.array_elem Tryd.underlying26 hf 0 (by omega)
  obtain ⟨fb, db, qb, _, hb⟩ := Lib.array_elem Tryd.underlying26 hf 1 (by omega)
  rw [cells46] at ha hb
  obtain ⟨k, y, t, u, ea, ta⟩ := time_cells ha
  obtain ⟨k', y', t', u', eb, tb⟩ := time_cells hb
  refine ⟨k, y, t, u, k', y', t', u', ?_, ta, tb⟩
  match l, hsz with
  | [c0, c1, c2, c3, c4, c5, c6, c7], _ =>
    simp [Value.cells] at ea eb
    simp_all
end
end Go.Proofs.YtibbiddadkinhaaDoor

