/-
  A number or two with '-' between: ReadSpan of numerals; an item of a set: the program's readItem. Conditions: the variables hold what their text lays; the number of weeks is from 1 to 20.
-/
import Derived.Test.YtmmphjpakoimcaaDoorA6
set_option linter.unusedVariables false
namespace Go.Proofs.YtmmphjpakoimcaaDoor
open Go Go.Proofs Go.RowKit Go.Lib

def ItemOut (r : Nat × Int) (w : World) (e : Ending) (w' : World) : Prop := e = .returned (.tuple #[.int .i64 ((r.1 : Nat) : Int), .int .i64 r.2]) ∧ Below w.heap.size w w'
theorem ba_size (l : Str) : (ba l).size = l.length := rfl
theorem aft_le (c : UInt8) : ∀ s, (aft c s).length ≤ s.length
  | [] => Nat.le_refl _
  | x :: r => by
    unfold aft
    have := aft_le c r
    split <;> simp <;> omega
theorem bef_small {s : ByteArray} (c : UInt8) (hz : s.size ≤ 4611686018427387904) : (ba (bef c (lst s))).size ≤ 4611686018427387904 := by
  rw [ba_size]
  have := bef_le c (lst s)
  rw [← Lib.size_eq] at this
  omega
theorem aft_small {s : ByteArray} (c : UInt8) (hz : s.size ≤ 4611686018427387904) : (ba (aft c (lst s))).size ≤ 4611686018427387904 := by
  rw [ba_size]
  have := aft_le c (lst s)
  rw [← Lib.size_eq] at this
  omega

/-- What ReadSpan hands back. -/
def spanM (x : Str) : Nat × Nat × Bool := if fromN x = 0 ∨ toN x = 0 then (0, 0, false) else (fromN x, toN x, true)
def SpanOut (r : Nat × Nat × Bool) (w : World) (e : Ending) (w' : World) : Prop :=
  e = .returned (.tuple #[.int .i64 ((r.1 : Nat) : Int), .int .i64 ((r.2.1 : Nat) : Int), .bool r.2.2]) ∧ Below w.heap.size w w'

set_option maxHeartbeats 4000000 in
set_option maxRecDepth 100000 in
theorem readSpan_any (s : ByteArray) (hz : s.size ≤ 4611686018427387904) (w : World) (hE : Env w) :
    Calls Tryd.prog 38 #[.string s, .int .i64 2] w (SpanOut (spanM (lst s)) w) := by
  obtain ⟨R, hR⟩ : ∃ R, spanM (lst s) = R := ⟨_, rfl⟩
  rw [hR]
  have hsz := hE.size
  have HE := hid hE
  have cC := hid (fun w => cut_any s 45 hz w)
  have hAs := bef_small 45 hz
  have hBs := aft_small 45 hz
  obtain ⟨A, hA⟩ : ∃ A, ba (bef 45 (lst s)) = A := ⟨_, rfl⟩
  obtain ⟨B, hB⟩ : ∃ B, ba (aft 45 (lst s)) = B := ⟨_, rfl⟩
  obtain ⟨d, hd⟩ : ∃ d, has 45 (lst s) = d := ⟨_, rfl⟩
  have lA : bef 45 (lst s) = lst A := by rw [← hA]; rfl
  have lB : aft 45 (lst s) = lst B := by rw [← hB]; rfl
  rw [hA] at hAs
  rw [hB] at hBs
  have cC' := cC.out
  unfold CutOut at cC'
  rw [hA, hB, hd] at cC'
  have CC := hid cC'
  have cX := hid (fun w h => read_any A hAs w h)
  have cY := hid (fun w h => read_any B hBs w h)
  obtain ⟨x, hx⟩ : ∃ x, smallN (lst A) = x := ⟨_, rfl⟩
  obtain ⟨y, hy⟩ : ∃ y, smallN (lst B) = y := ⟨_, rfl⟩
  have hr2 : (if x = 0 ∨ (if d = true then y else x) = 0 then (0, 0, false) else (x, (if d = true then y else x), true)) = R := by
    rw [← hR]
    unfold spanM fromN toN
    rw [lA, lB, hd, hx, hy]
  have cX' := cX.out
  have cY' := cY.out
  unfold NumOut at cX' cY'
  rw [hx] at cX'
  rw [hy] at cY'
  have CX := hid cX'
  have CY := hid cY'
  -- the second number, of either way
  have key : ∀ (z : Nat) (CZ : Hid (∀ w, Env w → Calls Tryd.prog 49 #[.string (if d = true then B else A), .int .i64 2] w fun e w' => e = .returned (.tuple #[.int .i64 (z : Int), .bool (decide (z ≠ 0))]) ∧ Below w.heap.size w w'))
      (HZ : Hid ((if x = 0 ∨ z = 0 then (0, 0, false) else (x, z, true)) = R)),
      Calls Tryd.prog 38 #[.string s, .int .i64 2] w (SpanOut R w) := by
    clear CY hr2 hR hA hB hd lA lB hAs hBs cC cC' cX cY hx hy cX' cY'
    intro z CZ HZ
    obtain ⟨dx, hdx⟩ : ∃ dx, decide (x ≠ 0) = dx := ⟨_, rfl⟩
    obtain ⟨dz, hdz⟩ : ∃ dz, decide (z ≠ 0) = dz := ⟨_, rfl⟩
    have CX' := CX.out
    have CZ' := CZ.out
    rw [hdx] at CX'
    rw [hdz] at CZ'
    have C1 := hid CX'
    have C2 := hid CZ'
    have four : (decide (x ≠ 0) = true ∧ decide (z ≠ 0) = true ∧ R = (x, z, true)) ∨ (decide (x ≠ 0) = false ∧ R = (0, 0, false)) ∨ (decide (x ≠ 0) = true ∧ decide (z ≠ 0) = false ∧ R = (0, 0, false)) := by
      rcases Nat.eq_zero_or_pos x with h | h
      · exact .inr (.inl ⟨decide_eq_false (by omega), by rw [← HZ.out, if_pos (.inl h)]⟩)
      · rcases Nat.eq_zero_or_pos z with h2 | h2
        · exact .inr (.inr ⟨decide_eq_true (by omega), decide_eq_false (by omega), by rw [← HZ.out, if_pos (.inr h2)]⟩)
        · exact .inl ⟨decide_eq_true (by omega), decide_eq_true (by omega), by rw [← HZ.out, if_neg (by omega)]⟩
    rw [hdx, hdz] at four
    clear CX CZ CX' CZ' HZ hdx hdz
    rcases four with ⟨rfl, rfl, rfl⟩ | ⟨rfl, rfl⟩ | ⟨rfl, rfl, rfl⟩
    all_goals
      cases d
      all_goals
        go_enter Tryd.func38, Tryd.ntmps38
        go_wp2_with fail
        refine (CC.out _).mono ?_
        rintro e w2 ⟨rfl, q, hw2⟩
        have HB2 : Hid (Below w.heap.size w w2) := hid (by rw [hw2]; exact below_drewN (Below.refl _ _) q)
        clear hw2
        go_wp2_with fail
        refine (C1.out _ (HE.out.below HB2.out hsz)).mono ?_
        rintro e w3 ⟨rfl, hb3⟩
        have HB3 := hid (HB2.out.trans (hb3.mono HB2.out.size))
        clear hb3
        go_wp2_with fail
        refine (C2.out _ (HE.out.below HB3.out hsz)).mono ?_
        rintro e w4 ⟨rfl, hb4⟩
        have HB4 := hid (HB3.out.trans (hb4.mono HB3.out.size))
        clear hb4
        go_wp2
        go_ret3
        exact ⟨rfl, HB4.out⟩
  cases d with
  | true =>
    refine key y (hid fun w h => CY.out w h) (hid ?_)
    rw [← hr2]
    simp
  | false =>
    refine key x (hid fun w h => CX.out w h) (hid ?_)
    rw [← hr2]
    simp

set_option maxHeartbeats 4000000 in
set_option maxRecDepth 100000 in
theorem readItem_any (s : ByteArray) (hz : s.size ≤ 4611686018427387904) (n : Nat) (h1 : 1 ≤ n) (h2 : n ≤ 20) (w : World) (hE : Env w) :
    Calls Tryd.prog 26 #[.string s, .int .i64 (n : Int)] w (ItemOut (itemM (lst s) n) w) := by
  obtain ⟨R, hR⟩ : ∃ R, itemM (lst s) n = R := ⟨_, rfl⟩
  rw [hR]
  have c37 := hid (setOf_any s n h1 h2 w hE.names)
  have hsz := hE.size
  have HE := hid hE
  cases hk : kindOf (lst s) with
  | some k =>
    have hr : R = (nmM k n, 0) := by
      rw [← hR]
      unfold itemM
      rw [hk]
    subst hr
    have hs : setOfM (lst s) n = (nmM k n, true) := by
      unfold setOfM
      rw [hk]
    have c37' := c37.out
    rw [hs] at c37'
    have C := hid c37'
    clear c37 c37' hs hk hR hE
    go_enter Tryd.func26, Tryd.ntmps26
    go_wp2_with fail
    refine C.out.mono ?_
    rintro e w' ⟨rfl, hb⟩
    have HB := hid hb
    clear hb
    go_wp2
    go_ret2
    exact ⟨rfl, HB.out⟩
  | none =>
    have hr : numM (lst s) n = R := by
      rw [← hR]
      unfold itemM
      rw [hk]
    have hs : setOfM (lst s) n = (0, false) := by
      unfold setOfM
      rw [hk]
    have c37' := c37.out
    rw [hs] at c37'
    have C := hid c37'
    have cP := hid (fun w h => readSpan_any s hz w h)
    have hxl : fromN (lst s) < 100 := smallN_lt _
    have hyl : toN (lst s) < 100 := by unfold toN; split <;> exact smallN_lt _
    unfold numM at hr
    have cP' := cP.out
    unfold SpanOut spanM at cP'
    obtain ⟨x, hx⟩ : ∃ x, fromN (lst s) = x := ⟨_, rfl⟩
    obtain ⟨y, hy⟩ : ∃ y, toN (lst s) = y := ⟨_, rfl⟩
    rw [hx, hy] at cP' hr
    rw [hx] at hxl
    rw [hy] at hyl
    clear c37 c37' hs hk hR hE cP hx hy
    by_cases h0 : x = 0 ∨ y = 0
    · rw [if_pos h0] at cP' hr
      subst hr
      have CP := hid cP'
      clear cP'
      go_enter Tryd.func26, Tryd.ntmps26
      go_wp2_with fail
      refine C.out.mono ?_
      rintro e w1 ⟨rfl, hb⟩
      have HB1 := hid hb
      clear hb
      go_wp2_with fail
      refine (CP.out _ (HE.out.below HB1.out hsz)).mono ?_
      rintro e w2 ⟨rfl, hb2⟩
      have HB2 := hid (HB1.out.trans (hb2.mono HB1.out.size))
      clear hb2
      go_wp2
      go_ret2
      exact ⟨rfl, HB2.out⟩
    · rw [if_neg h0] at cP' hr
      have CP := hid cP'
      clear cP'
      have three : (y < x ∨ (¬ y < x ∧ n < y)) ∨ (¬ y < x ∧ ¬ n < y) := by omega
      rcases three with hbad | ⟨hg1, hg2⟩
      · rw [if_pos (by omega)] at hr
        subst hr
        have hbad' : ((y : Int) < (x : Int)) ∨ (¬ (y : Int) < (x : Int) ∧ (n : Int) < (y : Int)) := by omega
        clear hbad
        rcases hbad' with hi1 | ⟨hi1, hi2⟩
        all_goals
          go_enter Tryd.func26, Tryd.ntmps26
          go_wp2_with fail
          refine C.out.mono ?_
          rintro e w1 ⟨rfl, hb⟩
          have HB1 := hid hb
          clear hb
          go_wp2_with fail
          refine (CP.out _ (HE.out.below HB1.out hsz)).mono ?_
          rintro e w2 ⟨rfl, hb2⟩
          have HB2 := hid (HB1.out.trans (hb2.mono HB1.out.size))
          clear hb2
          go_wp2
          go_ret2
          exact ⟨rfl, HB2.out⟩
      · rw [if_neg (by omega)] at hr
        subst hr
        have hi1 : ¬ (y : Int) < (x : Int) := by omega
        have hi2 : ¬ (n : Int) < (y : Int) := by omega
        obtain ⟨a, rfl⟩ : ∃ a, x = a + 1 := ⟨x - 1, by omega⟩
        have hca : ((a + 1 : Nat) : Int) = (a : Int) + 1 := by omega
        have CP' := CP.out
        dsimp only at CP'
        rw [hca] at CP' hi1
        have CP := hid CP'
        clear CP'
        have cS := hid (fun w => span_any a y (by omega) (by omega) w)
        go_enter Tryd.func26, Tryd.ntmps26
        go_wp2_with fail
        refine C.out.mono ?_
        rintro e w1 ⟨rfl, hb⟩
        have HB1 := hid hb
        clear hb
        go_wp2_with fail
        refine (CP.out _ (HE.out.below HB1.out hsz)).mono ?_
        rintro e w2 ⟨rfl, hb2⟩
        have HB2 := hid (HB1.out.trans (hb2.mono HB1.out.size))
        clear hb2
        go_wp2_with fail
        refine (cS.out _).mono ?_
        rintro e w5 ⟨rfl, q5, hw5⟩
        have HB5 : Hid (Below w.heap.size w w5) := hid (by rw [hw5]; exact below_drewN HB2.out q5)
        clear hw5
        go_wp2
        go_ret2
        exact ⟨rfl, HB5.out⟩
end Go.Proofs.YtmmphjpakoimcaaDoor
