/-
  Reading one field of a room: a code, a number of seats, a list of features. Conditions: the variables hold what their text lays; the text is below 2^32 bytes.
  One field of a room: readField, and the closure that calls it. Conditions: the variables hold what their text lays; the field is below 2^32 bytes.
  Entries out of records: the program's Read of package entries, at rooms. Conditions: the records lie below the map's block; what the closure reads stands.
-/
import Derived.Test.YteckefolakjafaaGreatDoorBV31
import Derived.Test.YteckefolakjafaaGreatDoorBV20
import Derived.Test.YteckefolakjafaaGreatDoorBV33
import Derived.Test.YteckefolakjafaaGreatDoorBV18
import Derived.Sort.OwnSorted
set_option linter.unusedVariables false
namespace Go.Proofs.YteckefolakjafaaGreatDoor
open Go Go.Proofs Go.RowKit Go.Lib

set_option maxHeartbeats 2000000 in
theorem readCode_any (s : ByteArray) (w : World) : Calls Tryz.prog 55 #[.string s] w fun e w' => e = .returned (.tuple #[.string (if S3.validC (lst s) = true then s else ⟨#[]⟩), .int .i64 (if S3.validC (lst s) = true then 0 else 10)]) ∧ w' = w := by
  have cV := fun w => S3.valid_any s w
  cases hv : S3.validC (lst s) with
  | false =>
    rw [show s.data.toList = lst s from rfl, hv] at cV
    rw [if_neg (by simp), if_neg (by simp)]
    clear hv
    go_enter Tryz.func55, Tryz.ntmps55
    go_wp2_with fail
    refine (cV _).mono ?_
    rintro e w' ⟨rfl, rfl⟩
    go_wp2
    go_ret2
    exact ⟨rfl, rfl⟩
  | true =>
    rw [show s.data.toList = lst s from rfl, hv] at cV
    rw [if_pos rfl, if_pos rfl]
    clear hv
    go_enter Tryz.func55, Tryz.ntmps55
    go_wp2_with fail
    refine (cV _).mono ?_
    rintro e w' ⟨rfl, rfl⟩
    go_wp2
    go_ret2
    exact ⟨rfl, rfl⟩

set_option maxHeartbeats 2000000 in
/-- Read of numerals at four digits. -/
theorem read4_any (s : ByteArray) (w : World) (hE : Env w) : Calls Tryz.prog 84 #[.string s, .int .i64 4] w fun e w' => e = .returned (.tuple #[.int .i64 ((numD 4 (lst s) : Nat) : Int), .bool (decide (numD 4 (lst s) ≠ 0))]) ∧ Below w.heap.size w w' := by
  obtain ⟨N, hN⟩ : ∃ N, numD 4 (lst s) = N := ⟨_, rfl⟩
  rw [hN]
  by_cases h0 : 0 < s.size
  · obtain ⟨x1, x2, x3, x4⟩ := str_no h0
    obtain ⟨r, hr⟩ := lst_cons h0
    by_cases h2 : s.size ≤ 4
    · have h2' : (s.size : Int) ≤ 4 := by omega
      obtain ⟨a, ha⟩ : ∃ a, s[0]'h0 = a := ⟨_, rfl⟩
      rw [ha] at hr
      by_cases h3 : a.toNat < 49
      · have h3' : (a.toNat : Int) < 49 := by omega
        have : N = 0 := by rw [← hN, hr, numD_low h3]
        subst this
        clear hN hr hE
        go_enter Tryz.func84, Tryz.ntmps84
        go_wp2
        go_ret2
        exact ⟨rfl, Below.refl _ _⟩
      · have h3' : ¬ (a.toNat : Int) < 49 := by omega
        have hat := atoi_numD 4 (lst s) a r hr (by rw [← Lib.size_eq]; exact h2) (by omega)
        rw [hN] at hat
        obtain ⟨ev, hev, hev2⟩ := hE.ev
        by_cases hn0 : N = 0
        · subst hn0
          rw [if_pos rfl] at hat
          have cA := hid (Tryz.strconv_Atoi_err s (by omega) hat ev w hev hev2)
          clear hN hr hE hat hev hev2
          go_enter Tryz.func84, Tryz.ntmps84
          go_wp2_with fail
          refine cA.out.mono ?_
          rintro e w' ⟨M, rfl, _, _, hb⟩
          have HB := hid hb
          clear hb
          go_wp2
          go_ret2
          exact ⟨rfl, HB.out⟩
        · rw [if_neg hn0] at hat
          have cA := hid (Tryz.strconv_Atoi s N (by omega) hat w)
          have hd : decide (N ≠ 0) = true := decide_eq_true hn0
          rw [hd]
          clear hN hr hE hat hev hev2 hd hn0
          go_enter Tryz.func84, Tryz.ntmps84
          go_wp2_with fail
          refine cA.out.mono ?_
          rintro e w' ⟨rfl, t, hw⟩
          have HB : Hid (Below w.heap.size w w') := hid (by rw [hw]; exact Lib.bytesWorld_below _ _ _)
          clear hw
          go_wp2
          go_ret2
          exact ⟨rfl, HB.out⟩
    · have h2' : ¬ (s.size : Int) ≤ 4 := by omega
      have : N = 0 := by rw [← hN, numD_long (by rw [← Lib.size_eq]; omega)]
      subst this
      clear hN hr hE
      go_enter Tryz.func84, Tryz.ntmps84
      go_wp2
      go_ret2
      exact ⟨rfl, Below.refl _ _⟩
  · obtain ⟨x1, x2, x3, x4⟩ := str_yes h0
    have : N = 0 := by rw [← hN, lst_nil h0]; rfl
    subst this
    clear hN hE
    go_enter Tryz.func84, Tryz.ntmps84
    go_wp2
    go_ret2
    exact ⟨rfl, Below.refl _ _⟩

set_option maxHeartbeats 2000000 in
theorem readSeats_any (s : ByteArray) (w : World) (hE : Env w) : Calls Tryz.prog 56 #[.string s] w fun e w' => e = .returned (.tuple #[.int .i64 (seatsM (lst s)).1, .int .i64 (seatsM (lst s)).2]) ∧ Below w.heap.size w w' := by
  have cR := hid (read4_any s w hE)
  unfold seatsM
  by_cases h : numD 4 (lst s) = 0
  · rw [if_pos h]
    have cR' := cR.out
    rw [h, decide_eq_false (fun k => k rfl)] at cR'
    have CR := hid cR'
    clear cR cR' h hE
    go_enter Tryz.func56, Tryz.ntmps56
    go_wp2_with fail
    refine CR.out.mono ?_
    rintro e w' ⟨rfl, hb⟩
    have HB := hid hb
    clear hb
    go_wp2
    go_ret2
    exact ⟨rfl, HB.out⟩
  · rw [if_neg h]
    have cR' := cR.out
    rw [decide_eq_true h] at cR'
    obtain ⟨N, hN⟩ : ∃ N, numD 4 (lst s) = N := ⟨_, rfl⟩
    rw [hN] at cR' ⊢
    have CR := hid cR'
    clear cR cR' h hE hN
    go_enter Tryz.func56, Tryz.ntmps56
    go_wp2_with fail
    refine CR.out.mono ?_
    rintro e w' ⟨rfl, hb⟩
    have HB := hid hb
    clear hb
    go_wp2
    go_ret2
    exact ⟨rfl, HB.out⟩

/-- Sort of a slice of strings of the call's own. -/
theorem sortRow (v : Value) (l : List Str) (B : Nat) (w : World) (h : S3.StrRow w B v l) (hB : B ≤ w.heap.size) (hl : l.length ≤ 1000) :
    Calls Tryz.prog 86 #[v] w fun e w' => e = .returned (.tuple #[]) ∧ S3.StrRow w' B v (sortS l) ∧ Below B w w' := by
  have h' := h
  rcases h.2 with ⟨hv, h0⟩ | ⟨g, cap, cur, hv, hg0, hg, h1, h2, h3, h4⟩
  · have hl : l = [] := List.eq_nil_of_length_eq_zero h0
    subst hl
    subst hv
    refine (Any.slices_Sort_string_none Tryz.lays190 none 0 w).mono ?_
    rintro e w' ⟨rfl, rfl⟩
    exact ⟨rfl, by rw [show sortS [] = [] by simp [sortS]]; exact h', Below.refl _ _⟩
  · subst hv
    have hlt := (Array.getElem?_eq_some_iff.1 hg).1
    have hH := holds_of_block (ss := l) hg (by have h5 := h4; rw [Nat.mul_one] at h5; exact h5)
    refine (Any.slices_Sort_string Tryz.lays190 g 0 cap l w hH hlt (by omega)).mono ?_
    rintro e w' ⟨rfl, n, os, rfl⟩
    refine ⟨rfl, ?_, (Below.refl _ w).grown (grownBy_sorted _) hB (fun k hk => by injection hk; omega)⟩
    have := ownsRow_sorted (n := n) (os := os) (ts := sortS l) (sortS_len l) hg0 hg h1 h2 h3
    unfold S3.StrRow
    rw [sortS_len]
    exact this

set_option maxHeartbeats 4000000 in
set_option maxRecDepth 100000 in
theorem readFeatures_any (s : ByteArray) (hs : s.size < 4294967281) (w : World) (hE : S3.Env w) : Calls Tryz.prog 57 #[.string s] w (S3.ListOut (featsM (lst s)) w) := by
  have cL := hid (S3.list_any s hs w hE)
  unfold S3.ListOut featsM
  have cL' := cL.out
  unfold S3.ListOut at cL'
  rw [show S3.lst s = lst s from rfl] at cL'
  obtain ⟨⟨l, e0⟩, hR⟩ : ∃ R, S3.listM (lst s) = R := ⟨_, rfl⟩
  rw [hR] at cL' ⊢
  dsimp only at cL' ⊢
  have CL := hid cL'
  clear cL cL' hR hE
  by_cases h0 : e0 = 0
  · subst h0
    rw [if_neg (by simp)]
    by_cases h8 : 8 < l.length
    · rw [if_pos h8]
      have h8z : (8 : Int) < (l.length : Int) := by omega
      go_enter Tryz.func57, Tryz.ntmps57
      go_wp2_with fail
      refine CL.out.mono ?_
      rintro e w1 ⟨⟨v, rfl, hrow⟩, hb⟩
      obtain ⟨A, c, rfl, _⟩ := hrow.strsIn
      have HB := hid hb
      clear hb hrow
      go_wp2
      go_ret2
      exact ⟨⟨_, rfl, World.ownsRow_nil _ _ _ _⟩, HB.out⟩
    · rw [if_neg h8]
      have h8z : ¬ (8 : Int) < (l.length : Int) := by omega
      go_enter Tryz.func57, Tryz.ntmps57
      go_wp2_with fail
      refine CL.out.mono ?_
      rintro e w1 ⟨⟨v, rfl, hrow⟩, hb⟩
      have cS := sortRow v l w.heap.size w1 hrow hb.size (by omega)
      obtain ⟨A, c, rfl, _⟩ := hrow.strsIn
      have CS := hid cS
      have HB := hid hb
      clear hb hrow cS
      go_wp2_with fail
      refine CS.out.mono ?_
      rintro e w2 ⟨rfl, hrow2, hb2⟩
      have HR2 := hid hrow2
      have HB2 := hid (HB.out.trans hb2)
      clear hrow2 hb2
      go_wp2
      go_ret2
      exact ⟨⟨_, rfl, HR2.out⟩, HB2.out⟩
  · rw [if_pos h0]
    have e1 : (e0 != 0) = true := by simpa using h0
    have e2 : (e0 == 0) = false := by simpa using h0
    go_enter Tryz.func57, Tryz.ntmps57
    go_wp2_with fail
    refine CL.out.mono ?_
    rintro e w1 ⟨⟨v, rfl, hrow⟩, hb⟩
    have HB := hid hb
    clear hb hrow
    go_wp2
    go_ret2
    exact ⟨⟨_, rfl, World.ownsRow_nil _ _ _ _⟩, HB.out⟩
end Go.Proofs.YteckefolakjafaaGreatDoor

set_option linter.unusedVariables false
namespace Go.Proofs.YteckefolakjafaaGreatDoor
open Go Go.Proofs Go.RowKit Go.Lib

theorem feats_len (x : Str) : (featsM x).1.length ≤ 9223372036854775807 ∨ True := .inr trivial
theorem tgo_start (d s b m n : Int) : ∀ (ps : List Str) (acc : List TimeD), (∀ t ∈ acc, t.2.2.1 ≤ 9223372036854775807) → ∀ t ∈ (tgo d s b m n ps acc).1, t.2.2.1 ≤ 9223372036854775807
  | [], acc, h => by simpa [tgo] using h
  | p :: ps, acc, h => by
    unfold tgo
    split
    · intro t ht; simp at ht
    · refine tgo_start d s b m n ps _ fun t ht => ?_
      rcases List.mem_append.1 ht with ht | ht
      · exact h t ht
      · rw [List.mem_singleton] at ht
        subst ht
        exact timeM_start d s b m n p
theorem timesM_start (d s b m n : Int) (x : Str) : ∀ t ∈ (timesM d s b m n x).1, t.2.2.1 ≤ 9223372036854775807 := by
  intro t ht
  have h := tgo_start d s b m n (S3.splitL x) [] (fun t ht => by simp at ht)
  unfold timesM at ht
  split at ht
  · simp at ht
  · split at ht
    · simp at ht
    · split at ht
      · simp at ht
      · exact h t ht
section
variable (d s b m n : Int) (x : Str) (r : RoomD) (q : Room5) (R : Nat) (W : World)
  (hX : Box5 W R (.string (ba r.1)) (.string (ba r.2.1)) (.int .i64 r.2.2.1) (.slice q.a1 r.2.2.2.1.length q.c1) (.slice q.a2 r.2.2.2.2.length q.c2)) (hR : RoomIn W (fun k => R < k ∧ k < W.heap.size) r q)
include hX hR
set_option maxHeartbeats 8000000 in
set_option maxRecDepth 100000 in
theorem readField0 : Calls Tryz.prog 30 #[.pointer (some ⟨R, 0, none⟩), .int .i64 0, .string (ba x), .agg #[.int .i64 d, .int .i64 s, .int .i64 b, .int .i64 m], .int .i64 n] W (FieldOut d s b m n 0 x r R W) := by
  have hb0 : Below W.heap.size W (W.alloc (.cells #[.int .i64 d, .int .i64 s, .int .i64 b, .int .i64 m] 24)) := (Below.refl _ W).alloc (Nat.le_refl _) _
  have hs0 : (W.alloc (.cells #[.int .i64 d, .int .i64 s, .int .i64 b, .int .i64 m] 24)).heap.size = W.heap.size + 1 := by simp
  have hG := Box4.new W d s b m 24
  unfold FieldOut
  have cC := fun W => readCode_any (ba x) W
  rw [lst_ba] at cC
  obtain ⟨u, hu⟩ : ∃ u : Str, (if S3.validC x = true then x else []) = u := ⟨_, rfl⟩
  have hub : (if S3.validC x = true then ba x else ⟨#[]⟩) = ba u := by rw [← hu]; split <;> rfl
  obtain ⟨e0, he0⟩ : ∃ e0 : Int, (if S3.validC x = true then (0 : Int) else 10) = e0 := ⟨_, rfl⟩
  have hS : setF d s b m n 0 x r = ((u, r.2), e0) := by rw [← hu, ← he0]; simp only [setF]; split <;> rfl
  rw [hub, he0] at cC
  rw [hS]
  obtain ⟨z, hz⟩ : ∃ z, ba x = z := ⟨_, rfl⟩
  rw [hz] at cC ⊢
  clear hub hu he0 hS
  have CC := hid cC
  clear cC
  have HX := hid hX
  have HR := hid hR
  have HB := hid hb0
  have HS0 := hid hs0
  have hlt := hX.lt
  have HG := hid hG
  clear hX hR hG hb0 hs0
  go_enter Tryz.func30, Tryz.ntmps30
  go_wp2_with fail
  generalize W.alloc (.cells #[.int .i64 d, .int .i64 s, .int .i64 b, .int .i64 m] 24) = W1 at HB HG HS0 ⊢
  refine (CC.out W1).mono ?_
  rintro e w2 ⟨rfl, rfl⟩
  have hB2 := HB.out
  have HB2 := hid hB2
  have HX2 := hid (HX.out.below hB2 hlt)
  obtain ⟨y0, y1, y2, y3, y4⟩ := HX2.out.cells
  have hf := HX2.out.free 0
  clear hB2
  go_wp2
  go_ret
  have k := RoomIn.past (j := 0) (v := .string (ba u)) HR.out HB2.out
  exact ⟨rfl, ⟨q, (HX2.out.put0 _), ⟨k.f, k.t, k.f1, k.f2, k.t1, k.t2⟩⟩, put_grown HB2.out R 0 _⟩
set_option maxHeartbeats 8000000 in
set_option maxRecDepth 100000 in
theorem readField1 : Calls Tryz.prog 30 #[.pointer (some ⟨R, 0, none⟩), .int .i64 1, .string (ba x), .agg #[.int .i64 d, .int .i64 s, .int .i64 b, .int .i64 m], .int .i64 n] W (FieldOut d s b m n 1 x r R W) := by
  have hb0 : Below W.heap.size W (W.alloc (.cells #[.int .i64 d, .int .i64 s, .int .i64 b, .int .i64 m] 24)) := (Below.refl _ W).alloc (Nat.le_refl _) _
  have hs0 : (W.alloc (.cells #[.int .i64 d, .int .i64 s, .int .i64 b, .int .i64 m] 24)).heap.size = W.heap.size + 1 := by simp
  have hG := Box4.new W d s b m 24
  unfold FieldOut
  have cC := fun W => readCode_any (ba x) W
  rw [lst_ba] at cC
  obtain ⟨u, hu⟩ : ∃ u : Str, (if S3.validC x = true then x else []) = u := ⟨_, rfl⟩
  have hub : (if S3.validC x = true then ba x else ⟨#[]⟩) = ba u := by rw [← hu]; split <;> rfl
  obtain ⟨e0, he0⟩ : ∃ e0 : Int, (if S3.validC x = true then (0 : Int) else 10) = e0 := ⟨_, rfl⟩
  have hS : setF d s b m n 1 x r = ((r.1, u, r.2.2), e0) := by rw [← hu, ← he0]; simp only [setF]; split <;> rfl
  rw [hub, he0] at cC
  rw [hS]
  obtain ⟨z, hz⟩ : ∃ z, ba x = z := ⟨_, rfl⟩
  rw [hz] at cC ⊢
  clear hub hu he0 hS
  have CC := hid cC
  clear cC
  have HX := hid hX
  have HR := hid hR
  have HB := hid hb0
  have HS0 := hid hs0
  have hlt := hX.lt
  have HG := hid hG
  clear hX hR hG hb0 hs0
  go_enter Tryz.func30, Tryz.ntmps30
  go_wp2_with fail
  generalize W.alloc (.cells #[.int .i64 d, .int .i64 s, .int .i64 b, .int .i64 m] 24) = W1 at HB HG HS0 ⊢
  refine (CC.out W1).mono ?_
  rintro e w2 ⟨rfl, rfl⟩
  have hB2 := HB.out
  have HB2 := hid hB2
  have HX2 := hid (HX.out.below hB2 hlt)
  obtain ⟨y0, y1, y2, y3, y4⟩ := HX2.out.cells
  have hf := HX2.out.free 1
  clear hB2
  go_wp2
  go_ret
  have k := RoomIn.past (j := 1) (v := .string (ba u)) HR.out HB2.out
  exact ⟨rfl, ⟨q, (HX2.out.put1 _), ⟨k.f, k.t, k.f1, k.f2, k.t1, k.t2⟩⟩, put_grown HB2.out R 1 _⟩
set_option maxHeartbeats 8000000 in
set_option maxRecDepth 100000 in
theorem readField2 (hE : Env7 W) : Calls Tryz.prog 30 #[.pointer (some ⟨R, 0, none⟩), .int .i64 2, .string (ba x), .agg #[.int .i64 d, .int .i64 s, .int .i64 b, .int .i64 m], .int .i64 n] W (FieldOut d s b m n 2 x r R W) := by
  have hb0 : Below W.heap.size W (W.alloc (.cells #[.int .i64 d, .int .i64 s, .int .i64 b, .int .i64 m] 24)) := (Below.refl _ W).alloc (Nat.le_refl _) _
  have hs0 : (W.alloc (.cells #[.int .i64 d, .int .i64 s, .int .i64 b, .int .i64 m] 24)).heap.size = W.heap.size + 1 := by simp
  have hG := Box4.new W d s b m 24
  unfold FieldOut
  have cC := fun W h => (lst_ba x) ▸ readSeats_any (ba x) W h
  obtain ⟨⟨u, e0⟩, hu⟩ : ∃ p, seatsM x = p := ⟨_, rfl⟩
  have hS : setF d s b m n 2 x r = ((r.1, r.2.1, u, r.2.2.2), e0) := by simp only [setF, hu]
  rw [hu] at cC
  rw [hS]
  obtain ⟨z, hz⟩ : ∃ z, ba x = z := ⟨_, rfl⟩
  rw [hz] at cC ⊢
  have CC := hid cC
  clear cC hS hu
  have HX := hid hX
  have HR := hid hR
  have HB := hid hb0
  have HS0 := hid hs0
  have hlt := hX.lt
  have HG := hid hG
  clear hX hR hG hb0 hs0
  go_enter Tryz.func30, Tryz.ntmps30
  go_wp2_with fail
  generalize W.alloc (.cells #[.int .i64 d, .int .i64 s, .int .i64 b, .int .i64 m] 24) = W1 at HB HG HS0 ⊢
  refine (CC.out W1 (hE.e.below HB.out hE.e.size)).mono ?_
  rintro e w2 ⟨rfl, hb2⟩
  have hB2 := HB.out.trans (hb2.mono HB.out.size)
  clear hb2
  have HB2 := hid hB2
  have HX2 := hid (HX.out.below hB2 hlt)
  obtain ⟨y0, y1, y2, y3, y4⟩ := HX2.out.cells
  have hf := HX2.out.free 2
  clear hB2
  go_wp2
  go_ret
  have k := RoomIn.past (j := 2) (v := .int .i64 u) HR.out HB2.out
  exact ⟨rfl, ⟨q, (HX2.out.put2 _), ⟨k.f, k.t, k.f1, k.f2, k.t1, k.t2⟩⟩, put_grown HB2.out R 2 _⟩
set_option maxHeartbeats 8000000 in
set_option maxRecDepth 100000 in
theorem readField3 (hE : Env7 W) (hx : x.length < 4294967281) : Calls Tryz.prog 30 #[.pointer (some ⟨R, 0, none⟩), .int .i64 3, .string (ba x), .agg #[.int .i64 d, .int .i64 s, .int .i64 b, .int .i64 m], .int .i64 n] W (FieldOut d s b m n 3 x r R W) := by
  have hb0 : Below W.heap.size W (W.alloc (.cells #[.int .i64 d, .int .i64 s, .int .i64 b, .int .i64 m] 24)) := (Below.refl _ W).alloc (Nat.le_refl _) _
  have hs0 : (W.alloc (.cells #[.int .i64 d, .int .i64 s, .int .i64 b, .int .i64 m] 24)).heap.size = W.heap.size + 1 := by simp
  have hG := Box4.new W d s b m 24
  unfold FieldOut
  have cC := fun W h => (lst_ba x) ▸ readFeatures_any (ba x) (by rw [Lib.size_eq]; exact hx) W h
  obtain ⟨⟨u, e0⟩, hu⟩ : ∃ p, featsM x = p := ⟨_, rfl⟩
  have hS : setF d s b m n 3 x r = ((r.1, r.2.1, r.2.2.1, u, r.2.2.2.2), e0) := by simp only [setF, hu]
  rw [hu] at cC
  rw [hS]
  obtain ⟨z, hz⟩ : ∃ z, ba x = z := ⟨_, rfl⟩
  rw [hz] at cC ⊢
  have CC := hid cC
  clear cC hS
  have HX := hid hX
  have HR := hid hR
  have HB := hid hb0
  have HS0 := hid hs0
  have hlt := hX.lt
  have HG := hid hG
  clear hX hR hG hb0 hs0
  go_enter Tryz.func30, Tryz.ntmps30
  go_wp2_with fail
  generalize W.alloc (.cells #[.int .i64 d, .int .i64 s, .int .i64 b, .int .i64 m] 24) = W1 at HB HG HS0 ⊢
  refine (CC.out W1 (hE.s.below HB.out)).mono ?_
  rintro e w2 ⟨⟨v, rfl, hrow⟩, hb2⟩
  have hB2 := HB.out.trans (hb2.mono HB.out.size)
  have hrow' : StrRow w2 W1.heap.size v u := hrow
  obtain ⟨A, c, rfl, hc1, hc2, hin⟩ := hrow'.strsIn
  have HIN := hid hin
  clear hb2 hrow hin hrow'
  have HB2 := hid hB2
  have HX2 := hid (HX.out.below hB2 hlt)
  obtain ⟨y0, y1, y2, y3, y4⟩ := HX2.out.cells
  have hf := HX2.out.free 3
  clear hB2
  go_wp2
  go_ret
  have hg := put_grown HB2.out R 3 (.slice A u.length c)
  have k := RoomIn.past (j := 3) (v := .slice A u.length c) HR.out HB2.out
  have hsz := HB.out.size
  refine ⟨rfl, ⟨⟨A, c, q.a2, q.c2⟩, (HX2.out.put3 _), ⟨?_, k.t, hc1, hc2, k.t1, k.t2⟩⟩, hg⟩
  refine (HIN.out.kept (w' := w2.setCell ⟨R, 3, none⟩ (.slice A u.length c)) (fun b hb => ?_)).mono (fun b hb => ⟨by omega, ?_⟩)
  · exact Below.heap_setCell w2 ⟨R, 3, none⟩ _ b (fun e => by have : b = R := e; omega)
  · simpa [World.setCell] using hb.2
set_option maxHeartbeats 8000000 in
set_option maxRecDepth 100000 in
theorem readField4 (hE : Env7 W) (hx : x.length < 4294967281) : Calls Tryz.prog 30 #[.pointer (some ⟨R, 0, none⟩), .int .i64 4, .string (ba x), .agg #[.int .i64 d, .int .i64 s, .int .i64 b, .int .i64 m], .int .i64 n] W (FieldOut d s b m n 4 x r R W) := by
  have hb0 : Below W.heap.size W (W.alloc (.cells #[.int .i64 d, .int .i64 s, .int .i64 b, .int .i64 m] 24)) := (Below.refl _ W).alloc (Nat.le_refl _) _
  have hs0 : (W.alloc (.cells #[.int .i64 d, .int .i64 s, .int .i64 b, .int .i64 m] 24)).heap.size = W.heap.size + 1 := by simp
  have hG := Box4.new W d s b m 24
  unfold FieldOut
  have cC := fun W h => (lst_ba x) ▸ readTimes_any d s b m n (ba x) (by rw [Lib.size_eq]; exact hx) W h
  have hst := timesM_start d s b m n x
  obtain ⟨⟨u, e0⟩, hu⟩ : ∃ p, timesM d s b m n x = p := ⟨_, rfl⟩
  rw [hu] at hst
  have hS : setF d s b m n 4 x r = ((r.1, r.2.1, r.2.2.1, r.2.2.2.1, u), e0) := by simp only [setF, hu]
  rw [hu] at cC
  rw [hS]
  obtain ⟨z, hz⟩ : ∃ z, ba x = z := ⟨_, rfl⟩
  rw [hz] at cC ⊢
  have CC := hid cC
  clear cC hS
  have HX := hid hX
  have HR := hid hR
  have HB := hid hb0
  have HS0 := hid hs0
  have hlt := hX.lt
  have HG := hid hG
  clear hX hR hG hb0 hs0
  obtain ⟨g0, g1, g2, g3, g4⟩ := HG.out
  go_enter Tryz.func30, Tryz.ntmps30
  go_wp2_with fail
  generalize W.alloc (.cells #[.int .i64 d, .int .i64 s, .int .i64 b, .int .i64 m] 24) = W1 at HB HG HS0 ⊢
  refine (CC.out W1 (hE.below HB.out (Nat.le_refl _))).mono ?_
  rintro e w2 ⟨⟨v, rfl, hrow⟩, hb2⟩
  have hB2 := HB.out.trans (hb2.mono HB.out.size)
  have hrow' : TimeRow w2 W1.heap.size v u := hrow
  obtain ⟨A, c, rfl, hc1, hc2, hin⟩ := hrow'.timesIn hst
  have HIN := hid hin
  clear hb2 hrow hin hrow'
  have HB2 := hid hB2
  have HX2 := hid (HX.out.below hB2 hlt)
  obtain ⟨y0, y1, y2, y3, y4⟩ := HX2.out.cells
  have hf := HX2.out.free 4
  clear hB2
  go_wp2
  go_ret
  have hg := put_grown HB2.out R 4 (.slice A u.length c)
  have k := RoomIn.past (j := 4) (v := .slice A u.length c) HR.out HB2.out
  have hsz := HB.out.size
  refine ⟨rfl, ⟨⟨q.a1, q.c1, A, c⟩, (HX2.out.put4 _), ⟨k.f, ?_, k.f1, k.f2, hc1, hc2⟩⟩, hg⟩
  refine (HIN.out.kept (w' := w2.setCell ⟨R, 4, none⟩ (.slice A u.length c)) (fun b hb => ?_)).mono (fun b hb => ⟨by omega, ?_⟩)
  · exact Below.heap_setCell w2 ⟨R, 4, none⟩ _ b (fun e => by have : b = R := e; omega)
  · simpa [World.setCell] using hb.2
theorem readField_any (hE : Env7 W) (hx : x.length < 4294967281) (i : Nat) (hi : i < 5) : Calls Tryz.prog 30 #[.pointer (some ⟨R, 0, none⟩), .int .i64 (i : Int), .string (ba x), .agg #[.int .i64 d, .int .i64 s, .int .i64 b, .int .i64 m], .int .i64 n] W (FieldOut d s b m n i x r R W) := by
  match i, hi with
  | 0, _ => exact readField0 d s b m n x r q R W hX hR
  | 1, _ => exact readField1 d s b m n x r q R W hX hR
  | 2, _ => exact readField2 d s b m n x r q R W hX hR hE
  | 3, _ => exact readField3 d s b m n x r q R W hX hR hE hx
  | 4, _ => exact readField4 d s b m n x r q R W hX hR hE hx
set_option maxHeartbeats 8000000 in
set_option maxRecDepth 100000 in
theorem read1_any (hE : Env7 W) (hx : x.length < 4294967281) (i : Nat) (hi : i < 5) (G N : Nat) (hG : Box4 W G d s b m) (hN : W.cell? ⟨N, 0, none⟩ = some (.int .i64 n)) :
    Calls Tryz.prog 29 (#[.pointer (some ⟨R, 0, none⟩), .int .i64 (i : Int), .string (ba x)] ++ #[.pointer (some ⟨G, 0, none⟩), .pointer (some ⟨N, 0, none⟩)]) W (FieldOut d s b m n i x r R W) := by
  have cF := hid (readField_any d s b m n x r q R W hX hR hE hx i hi)
  obtain ⟨g0, g1, g2, g3, g4⟩ := hG
  clear hX hR hE hx
  simp only [List.append_toArray, List.cons_append, List.nil_append]
  obtain ⟨z, hz⟩ : ∃ z, ba x = z := ⟨_, rfl⟩
  rw [hz] at cF ⊢
  obtain ⟨iz, hiz⟩ : ∃ iz : Int, (i : Int) = iz := ⟨_, rfl⟩
  rw [hiz] at cF ⊢
  go_enter Tryz.func29, Tryz.ntmps29
  go_wp2_with fail
  refine cF.out.mono ?_
  rintro e w2 h
  unfold FieldOut at h ⊢
  obtain ⟨rfl, h⟩ := h
  have H := hid h
  clear h
  go_wp2
  go_ret
  exact ⟨rfl, H.out⟩
end
end Go.Proofs.YteckefolakjafaaGreatDoor

set_option linter.unusedVariables false
namespace Go.Proofs.YteckefolakjafaaGreatDoor
open Go Go.Proofs Go.RowKit Go.Lib

set_option maxHeartbeats 16000000 in
set_option maxRecDepth 100000 in
theorem entries_any (d s b m n : Int) (A : Option Addr) (l : List RecD) (c M G N : Nat) (w : World) (hM : M < w.heap.size) (h : RecsIn w (fun k => k < M) A l) (hl : l.length ≤ 1073741824)
    (hsz : ∀ x ∈ l, ∀ f ∈ x.2, f.1.length < 4294967281) (hE : ∀ W, Below M w W → Env7 W ∧ Box4 W G d s b m ∧ W.cell? ⟨N, 0, none⟩ = some (.int .i64 n)) (hK : KSet w M []) :
    Calls Tryz.prog 31 #[.slice A l.length c, .int .i64 5, .func (.func 29) #[] #[.pointer (some ⟨G, 0, none⟩), .pointer (some ⟨N, 0, none⟩)], .func (.func 23) #[.map (some M)] #[]] w (EntsOut M (recsM d s b m n l) w) := by
  obtain ⟨i4, hi4, hz4, hs4, hb4⟩ := info_parts infoProb
  obtain ⟨i5, hi5, hz5, hs5, hb5⟩ := info_parts infoRoom
  have ea : ∀ args w, (callFunc 23 args).run Tryz.prog w = .ok (.enter 23 args) w := enters_of Tryz.func23 (by kernel_rfl) rfl
  have hI0 := EInv.start (M := M) hK
  have HH := hid h
  have HSZ := hid hsz
  have HE := hid hE
  have HI0 := hid hI0
  clear h hsz hE hK hI0
  unfold EntsOut
  go_enter Tryz.func31, Tryz.ntmps31
  go_wp2
  go_loopw [10, 11, 13, 19] (fun u1 u2 _ iv wr => ∃ (i : Nat) (A1 : Option Addr) (n1 c1 : Nat) (A2 : Option Addr) (n2 c2 : Nat), u1 = .slice A1 n1 c1 ∧ u2 = .slice A2 n2 c2 ∧ iv = .int .i64 (i : Int) ∧ i ≤ l.length ∧ Hid (EInv M w (recsM d s b m n (l.take i)).1 (recsM d s b m n (l.take i)).2 (codesR (recsM d s b m n (l.take i)).1) (.slice A1 n1 c1) (.slice A2 n2 c2) wr)) (fun _ _ _ iv _ => l.length - (RowKit.intOf iv).toNat)
  case atStart => exact ⟨0, _, _, _, _, _, _, rfl, rfl, rfl, Nat.zero_le _, hid HI0.out⟩
  case round =>
    obtain ⟨i, A1, n1, c1, A2, n2, c2, rfl, rfl, rfl, hi, hI⟩ := hrel
    have hMs : M < wr.heap.size := hI.out.map.lt
    obtain ⟨Lr0, hL0, ho0, hr0⟩ := hI.out.row
    have hlt1 : ∀ k, (Value.slice A1 n1 c1).ownBlock = some k → k < wr.heap.size := fun k e => (own_lt ho0 k e).2
    have hlt2 : ∀ k, (Value.slice A2 n2 c2).ownBlock = some k → k < wr.heap.size := fun k e => (own_lt hI.out.probs k e).2
    have HL1 := hid hlt1
    have HL2 := hid hlt2
    have HMS := hid hMs
    have hws := hI.out.below.size
    have HWS := hid hws
    clear hL0 ho0 hr0 hlt1 hlt2 hMs hws
    by_cases hlt : i < l.length
    · have hltz : (i : Int) < (l.length : Int) := by omega
      obtain ⟨fb, fo, A', c', rfl, hfb, hfi, hc1, hc2, y0, y1⟩ := HH.out.at_ hlt
      have kc : ∀ o : Nat, wr.cell? ⟨fb, o, none⟩ = w.cell? ⟨fb, o, none⟩ := fun o => hI.out.below.cell (p := ⟨fb, o, none⟩) hfb
      rw [← kc] at y0 y1
      have hst := recsM_take d s b m n l i hlt
      have hrl := recsM_len d s b m n (l.take i)
      have hpl := recsM_probs d s b m n (l.take i)
      rw [List.length_take] at hpl
      have hszi := HSZ.out _ (List.getElem_mem hlt)
      obtain ⟨⟨rs, ps⟩, hst0⟩ : ∃ S, recsM d s b m n (l.take i) = S := ⟨_, rfl⟩
      rw [hst0] at hst hrl hpl hI
      obtain ⟨⟨line, fs⟩, hx⟩ : ∃ X, l[i] = X := ⟨_, rfl⟩
      rw [hx] at hfi hc1 y0 y1 hst hszi
      dsimp only at hfi hc1 y0 y1 hst hszi hrl hpl hI
      obtain ⟨F, hF⟩ : ∃ F, fs.length = F := ⟨_, rfl⟩
      have hw1 := (Below.refl wr.heap.size wr).alloc (Nat.le_refl _) (.cells #[.int .i64 line, .slice A' F c'] 36)
      have e1 := heap_alloc_new wr (.cells #[.int .i64 line, .slice A' F c'] 36)
      have hs1 : (wr.alloc (.cells #[.int .i64 line, .slice A' F c'] 36)).heap.size = wr.heap.size + 1 := by simp
      have x0 : (wr.alloc (.cells #[.int .i64 line, .slice A' F c'] 36)).cell? ⟨wr.heap.size, 0, none⟩ = some (.int .i64 line) := by rw [Lib.cell_of_heap e1]; rfl
      have x1 : (wr.alloc (.cells #[.int .i64 line, .slice A' F c'] 36)).cell? ⟨wr.heap.size, 1, none⟩ = some (.slice A' F c') := by rw [Lib.cell_of_heap e1]; rfl
      have hMw1 : Below M w (wr.alloc (.cells #[.int .i64 line, .slice A' F c'] 36)) := hI.out.below.trans (hw1.mono (Nat.le_of_lt HMS.out))
      have cE := readEntry_any d s b m n A' fs c' M G N (wr.alloc (.cells #[.int .i64 line, .slice A' F c'] 36)) (by rw [hs1]; have := HMS.out; omega) (hfi.below hMw1) hc1 hc2
        (fun W R j x r q hb hR hj hf hX hR' => by
          obtain ⟨f, hf1, rfl⟩ := hf
          obtain ⟨q1, q2, q3⟩ := HE.out W (hMw1.trans (hb.mono (by rw [hs1]; have := HMS.out; omega)))
          exact read1_any d s b m n f.1 r q R W hX hR' q1 (hszi f hf1) j hj G N q2 q3)
      rw [hF] at cE y1
      unfold EntryOut at cE
      obtain ⟨⟨r, col, e0⟩, hen⟩ : ∃ S, entryM d s b m n fs = S := ⟨_, rfl⟩
      have hrec : recM d s b m n (rs, ps) (line, fs) = if e0 ≠ 0 then (rs, ps ++ [(line, col, e0)]) else if addC rs r.1 ≠ 0 then (rs, ps ++ [(line, col, addC rs r.1)]) else (rs ++ [r], ps) := by unfold recM; rw [hen]
      rw [hrec] at hst
      rw [hen] at cE
      have CE := hid cE
      have HST := hid hst
      have HI := hid hI.out
      have HE1 := hid e1
      have HW1 := hid hw1
      have HS1 := hid hs1
      have HX := hid hx
      have HST0 := hid hst0
      have HFI := hid hfi
      have HSZI := hid hszi
      have HEN := hid hen
      clear hst hst0 hI e1 hw1 hs1 hx hfi hszi hen hrec kc cE hMw1 hF
      go_wp2_with fail
      generalize wr.alloc (.cells #[.int .i64 line, .slice A' F c'] 36) = w1 at CE HE1 HW1 HS1 x0 x1 ⊢
      refine CE.out.mono ?_
      rintro e w2 ⟨⟨q, rfl, hroom⟩, hb2⟩
      have hrl1 : r.1.length < 4294967281 := by
        have := entryM_code d s b m n 4294967281 (by omega) fs HSZI.out
        rw [HEN.out] at this
        exact this
      have hcsz : (ba r.1).size ≤ maxLen := by rw [Lib.size_eq]; show r.1.length ≤ maxLen; unfold maxLen; omega
      have hcl : (codesR rs).length ≤ 16 := by simpa [codesR] using hrl
      have hvs : roomV r q = .agg #[.string (ba r.1), .string (ba r.2.1), .int .i64 r.2.2.1, .slice q.a1 r.2.2.2.1.length q.c1, .slice q.a2 r.2.2.2.2.length q.c2] := rfl
      rw [hvs]
      have hw3 := (Below.refl w2.heap.size w2).alloc (Nat.le_refl _) (.cells #[.string (ba r.1), .string (ba r.2.1), .int .i64 r.2.2.1, .slice q.a1 r.2.2.2.1.length q.c1, .slice q.a2 r.2.2.2.2.length q.c2] 46)
      have hB5 := Box5.new w2 (.string (ba r.1)) (.string (ba r.2.1)) (.int .i64 r.2.2.1) (.slice q.a1 r.2.2.2.1.length q.c1) (.slice q.a2 r.2.2.2.2.length q.c2)
      have hs3 : (w2.alloc (.cells #[.string (ba r.1), .string (ba r.2.1), .int .i64 r.2.2.1, .slice q.a1 r.2.2.2.1.length q.c1, .slice q.a2 r.2.2.2.2.length q.c2] 46)).heap.size = w2.heap.size + 1 := by simp
      obtain ⟨w3, hw3e⟩ : ∃ w3, w2.alloc (.cells #[.string (ba r.1), .string (ba r.2.1), .int .i64 r.2.2.1, .slice q.a1 r.2.2.2.1.length q.c1, .slice q.a2 r.2.2.2.2.length q.c2] 46) = w3 := ⟨_, rfl⟩
      rw [hw3e] at hw3 hB5 hs3
      have hb13 : Below wr.heap.size wr w3 := HW1.out.trans ((hb2.mono (by rw [HS1.out]; omega)).trans (hw3.mono (by have := hb2.size; have := HW1.out.size; omega)))
      have hI3 := HI.out.under hM hb13
      have hroom3 : RoomIn w3 (fun k => w1.heap.size ≤ k ∧ k < w3.heap.size) r q := (hroom.kept (fun k hk => hw3.block k hk.2)).mono (fun k hk => ⟨hk.1, by omega⟩)
      have x03 : w3.cell? ⟨wr.heap.size, 0, none⟩ = some (.int .i64 line) := by
        rw [hw3.cell (p := ⟨wr.heap.size, 0, none⟩) (by have := hb2.size; have := HS1.out; show wr.heap.size < w2.heap.size; omega), hb2.cell (p := ⟨wr.heap.size, 0, none⟩) (by have := HS1.out; show wr.heap.size < w1.heap.size; omega)]
        exact x0
      have hz3 : wr.heap.size < w3.heap.size := by have := hb2.size; have := HS1.out; omega
      have HI3 := hid hI3
      have HR3 := hid hroom3
      have HB5 := hid hB5
      have HZ3 := hid hz3
      have HS3 := hid hs3
      have HZ2 := hid hb2.size
      clear hI3 hroom3 hB5 hb13 hw3 hroom hb2 x0 x1 hvs hz3 hs3
      by_cases he : e0 = 0
      · subst he
        have hst := HST.out
        rw [if_neg (by simp)] at hst
        have hac := addM_codes rs r.1
        have cA := fun W (h : KSet W M (codesR rs)) => add_any M (codesR rs) (ba r.1) (ba r.2.1) r.2.2.1 q.a1 r.2.2.2.1.length q.c1 q.a2 r.2.2.2.2.length q.c2 hcl hcsz W h
        have cA3 := cA w3 HI3.out.map
        unfold AddOut at cA3
        rw [lst_ba, hac.1, hac.2] at cA3
        obtain ⟨e1, he1⟩ : ∃ e1, addC rs r.1 = e1 := ⟨_, rfl⟩
        rw [he1] at cA3 hst
        have CA := hid cA3
        obtain ⟨y0', y1', y2', y3', y4'⟩ := HB5.out.cells
        clear cA cA3 hac
        by_cases he2 : e1 = 0
        · subst he2
          rw [if_neg (by simp)] at hst
          have HSTF := hid hst
          clear hst
          go_wp2_with fail
          refine CA.out.mono ?_
          rintro e w4 ⟨rfl, hk4, hg4⟩
          rw [if_pos trivial] at hk4
          have hk4' : KSet w4 M (codesR (rs ++ [r])) := by simpa [codesR] using hk4
          have hI4 := HI3.out.past hM hg4 hk4'
          have hM3 := HI3.out.below.size
          have hMw : M < w3.heap.size := HI3.out.map.lt
          have hB54 := HB5.out.kept (hg4.block w2.heap.size (by have := HS3.out; omega) (fun e => by injection e; have := HI.out.map.lt; have := HZ2.out; have := HS1.out; omega))
          have hR4 : RoomIn w4 (fun k => w1.heap.size ≤ k ∧ k < w4.heap.size) r q := (HR3.out.kept (fun k hk => hg4.block k hk.2 (fun e => by injection e; have := HI.out.map.lt; have := HS1.out; have := hk.1; omega))).mono (fun k hk => ⟨hk.1, Nat.lt_of_lt_of_le hk.2 hg4.size⟩)
          obtain ⟨Lr0, hL0, ho0, hr0⟩ := hI4.row
          have HRR := hid hr0
          have hz4 : wr.heap.size < w4.heap.size := Nat.lt_of_lt_of_le HZ3.out hg4.size
          have hrz : rs.length = n1 := by
            have hl0 : Lr0.length = rs.length := by rw [← hL0, List.length_map]
            rcases ho0.2 with ⟨hv, h0⟩ | ⟨g, cap, cur, hv, _⟩
            · injection hv with _ h1 _; omega
            · injection hv with _ h1 _; omega
          have hl0 : Lr0.length = n1 := by rw [← hrz, ← hL0, List.length_map]
          rw [hl0] at ho0
          have HMX : Hid (n1 + 1 ≤ maxLen) := hid (by unfold maxLen; omega)
          have HBY : Hid ((n1 + 1) * 88 ≤ 140737488355328) := hid (by omega)
          have HO0 := hid ho0
          have HL0 := hid hL0
          have HLL0 := hid hl0
          have HRZ := hid hrz
          have HI4 := hid hI4
          have HR4 := hid hR4
          have HN5 : Hid (∀ (j : Nat) (u : Value), (roomVs r q)[j]? = some u → (w4.alloc (.cells #[.string (ba r.1), .string (ba r.2.1), .int .i64 r.2.2.1, .slice q.a1 r.2.2.2.1.length q.c1, .slice q.a2 r.2.2.2.2.length q.c2] 46)).cell? ((⟨w4.heap.size, 0, none⟩ : Addr).add j) = some u) := hid (five_new w4 r q)
          have HON : Hid (∀ u ∈ roomVs r q, u.oneCell' = true) := hid (room_one r q)
          have HW4S : Hid (w.heap.size ≤ (w4.alloc (.cells #[.string (ba r.1), .string (ba r.2.1), .int .i64 r.2.2.1, .slice q.a1 r.2.2.2.1.length q.c1, .slice q.a2 r.2.2.2.2.length q.c2] 46)).heap.size) := hid (by have := HWS.out; simp; omega)
          obtain ⟨z0', z1', z2', z3', z4'⟩ := hB54.cells
          clear hr0 hI4 hR4 hB54 hk4 hk4' hg4 ho0 hL0 hl0 hM3 hMw hrz y0' y1' y2' y3' y4'
          go_wp2_with (at_builtin; refine wpList_append_own_at _ rfl _ _ 22 rfl w.heap.size 46 i5 (.agg #[.string ⟨#[]⟩, .string ⟨#[]⟩, .int .i64 0, .slice none 0 0, .slice none 0 0]) 5 88 Tryz.underlying22 hi5 hz5 hs5 hb5 rfl (by decide) _ n1 (roomVals Lr0) rfl (World.ownsRow.alloc HO0.out _) ⟨w4.heap.size, 0, none⟩ 1 1 (roomVs r q) rfl rfl HN5.out HON.out HMX.out HBY.out HW4S.out ?_)
          intro v' w5 hown' hgrow hnil hat
          obtain ⟨g', cap', rfl⟩ := ownsRow_succ (k := n1) hown'
          have hI5 := EInv.room (C := w1.heap.size) HI4.out hM HR4.out (by have := HWS.out; have := HS1.out; omega) (fun k e => by have := HL1.out k e; have := HS1.out; omega) (fun k e => by have := HL2.out k e; have := HS1.out; omega) HL0.out (by rw [HLL0.out]; exact HO0.out) HRR.out (v1' := .slice (some ⟨g', 0, none⟩) (n1 + 1) cap') (by rw [HLL0.out]; exact hown') (grownBy_of_alloc hgrow) (hat.imp id (fun h => ⟨_, h, by simp⟩))
          have HI5 : Hid (EInv M w (recsM d s b m n (l.take (i + 1))).1 (recsM d s b m n (l.take (i + 1))).2 (codesR (recsM d s b m n (l.take (i + 1))).1) (.slice (some ⟨g', 0, none⟩) (n1 + 1) cap') (.slice A2 n2 c2) w5) := hid (by rw [HSTF.out]; exact hI5)
          clear hI5 hown' hgrow hnil hat
          go_wp2_with fail
          go_roundw
          case rel => exact ⟨i + 1, _, _, _, _, _, _, rfl, rfl, by go_num, by omega, HI5⟩
          case measure => simp [RowKit.intOf]; omega
        · rw [if_pos he2] at hst
          have HSTF := hid hst
          have HNE := hid he2
          clear hst
          go_wp2_with fail
          refine CA.out.mono ?_
          rintro e w4 ⟨rfl, hk4, hg4⟩
          rw [if_neg he2] at hk4
          have hI4 := HI3.out.past hM hg4 hk4
          have x04 : w4.cell? ⟨wr.heap.size, 0, none⟩ = some (.int .i64 line) := (World.cell?_of_block (w := w3) (hg4.block wr.heap.size HZ3.out (fun e => by injection e; have := HI.out.map.lt; omega))).trans x03
          have HI4 := hid hI4
          clear hI4 hk4 hg4 y0' y1' y2' y3' y4'
          have hne2 : (e1 != 0) = true := by simpa using HNE.out
          have hpz : ps.length = n2 := by
            rcases HI4.out.probs.2 with ⟨hv, h0⟩ | ⟨g, cap, cur, hv, _⟩
            · injection hv with _ h1 _; omega
            · injection hv with _ h1 _; omega
          have HMX : Hid (n2 + 1 ≤ maxLen) := hid (by unfold maxLen; omega)
          have HBY : Hid ((n2 + 1) * 32 ≤ 140737488355328) := hid (by omega)
          have hprow : ProbsRow w4 w.heap.size (.slice A2 n2 c2) ps := HI4.out.probs
          unfold ProbsRow at hprow
          rw [hpz] at hprow
          have HPR := hid hprow
          have HN4 : Hid (∀ (j : Nat) (u : Value), (probVs (line, col, e1))[j]? = some u → (w4.alloc (.cells #[.int .i64 0, .int .i64 line, .int .i64 col, .int .i64 e1] 66)).cell? ((⟨w4.heap.size, 0, none⟩ : Addr).add j) = some u) := hid (four_new w4 0 line col e1 66)
          have HON : Hid (∀ u ∈ probVs (line, col, e1), u.oneCell' = true) := hid (times_one (0, line, col, e1))
          have HWZ := hid HI4.out.below.size
          have HW3S : Hid (w.heap.size ≤ (w4.alloc (.cells #[.int .i64 0, .int .i64 line, .int .i64 col, .int .i64 e1] 66)).heap.size) := hid (by have := HWZ.out; simp; omega)
          clear hprow
          go_wp2_with (at_builtin; (try rw [hw3e]); refine wpList_append_own_at _ rfl _ _ 37 rfl w.heap.size 66 i4 (.agg #[.int .i64 0, .int .i64 0, .int .i64 0, .int .i64 0]) 4 32 Tryz.underlying37 hi4 hz4 hs4 hb4 rfl (by decide) _ n2 (probVals ps) rfl (World.ownsRow.alloc HPR.out _) ⟨w4.heap.size, 0, none⟩ 1 1 (probVs (line, col, e1)) rfl rfl HN4.out HON.out HMX.out HBY.out HW3S.out ?_)
          intro v' w5 hown' hgrow hnil hat
          obtain ⟨g', cap', rfl⟩ := ownsRow_succ (k := n2) hown'
          have hI5 := HI4.out.prob (p := (line, col, e1)) hM (v2' := .slice (some ⟨g', 0, none⟩) (n2 + 1) cap') (by unfold ProbsRow; rw [probVals_app, List.length_append, hpz]; simpa [probVals] using hown') (grownBy_of_alloc hgrow) (hat.imp id (fun h => ⟨_, h, by simp⟩))
          have HI5 : Hid (EInv M w (recsM d s b m n (l.take (i + 1))).1 (recsM d s b m n (l.take (i + 1))).2 (codesR (recsM d s b m n (l.take (i + 1))).1) (.slice A1 n1 c1) (.slice (some ⟨g', 0, none⟩) (n2 + 1) cap') w5) := hid (by rw [HSTF.out]; exact hI5)
          clear hI5 hown' hgrow hnil hat
          go_wp2_with fail
          go_roundw
          case rel => exact ⟨i + 1, _, _, _, _, _, _, rfl, rfl, by go_num, by omega, HI5⟩
          case measure => simp [RowKit.intOf]; omega
      · have hst := HST.out
        rw [if_pos he] at hst
        have HSTF := hid hst
        clear hst
        have hne : (e0 == 0) = false := by simpa using he
        have HNE := hid he
        have hne2 : (e0 != 0) = true := by simpa using HNE.out
        have hpz : ps.length = n2 := by
          rcases HI3.out.probs.2 with ⟨hv, h0⟩ | ⟨g, cap, cur, hv, _⟩
          · injection hv with _ h1 _; omega
          · injection hv with _ h1 _; omega
        have HMX : Hid (n2 + 1 ≤ maxLen) := hid (by unfold maxLen; omega)
        have HBY : Hid ((n2 + 1) * 32 ≤ 140737488355328) := hid (by omega)
        have hprow : ProbsRow w3 w.heap.size (.slice A2 n2 c2) ps := HI3.out.probs
        unfold ProbsRow at hprow
        rw [hpz] at hprow
        have HPR := hid hprow
        have HN4 : Hid (∀ (j : Nat) (u : Value), (probVs (line, col, e0))[j]? = some u → (w3.alloc (.cells #[.int .i64 0, .int .i64 line, .int .i64 col, .int .i64 e0] 66)).cell? ((⟨w3.heap.size, 0, none⟩ : Addr).add j) = some u) := hid (four_new w3 0 line col e0 66)
        have HON : Hid (∀ u ∈ probVs (line, col, e0), u.oneCell' = true) := hid (times_one (0, line, col, e0))
        have HWZ := hid HI3.out.below.size
        have HW3S : Hid (w.heap.size ≤ (w3.alloc (.cells #[.int .i64 0, .int .i64 line, .int .i64 col, .int .i64 e0] 66)).heap.size) := hid (by have := HWZ.out; simp; omega)
        clear hprow
        go_wp2_with (at_builtin; (try rw [hw3e]); refine wpList_append_own_at _ rfl _ _ 37 rfl w.heap.size 66 i4 (.agg #[.int .i64 0, .int .i64 0, .int .i64 0, .int .i64 0]) 4 32 Tryz.underlying37 hi4 hz4 hs4 hb4 rfl (by decide) _ n2 (probVals ps) rfl (World.ownsRow.alloc HPR.out _) ⟨w3.heap.size, 0, none⟩ 1 1 (probVs (line, col, e0)) rfl rfl HN4.out HON.out HMX.out HBY.out HW3S.out ?_)
        intro v' w5 hown' hgrow hnil hat
        obtain ⟨g', cap', rfl⟩ := ownsRow_succ (k := n2) hown'
        have hI5 := HI3.out.prob (p := (line, col, e0)) hM (v2' := .slice (some ⟨g', 0, none⟩) (n2 + 1) cap') (by unfold ProbsRow; rw [probVals_app, List.length_append, hpz]; simpa [probVals] using hown') (grownBy_of_alloc hgrow) (hat.imp id (fun h => ⟨_, h, by simp⟩))
        have HI5 : Hid (EInv M w (recsM d s b m n (l.take (i + 1))).1 (recsM d s b m n (l.take (i + 1))).2 (codesR (recsM d s b m n (l.take (i + 1))).1) (.slice A1 n1 c1) (.slice (some ⟨g', 0, none⟩) (n2 + 1) cap') w5) := hid (by rw [HSTF.out]; exact hI5)
        clear hI5 hown' hgrow hnil hat
        go_wp2_with fail
        go_roundw
        case rel => exact ⟨i + 1, _, _, _, _, _, _, rfl, rfl, by go_num, by omega, HI5⟩
        case measure => simp [RowKit.intOf]; omega
    · have hltz : ¬ (i : Int) < (l.length : Int) := by omega
      rw [List.take_of_length_le (by omega)] at hI
      go_wp2
      go_ret2
      exact ⟨_, _, rfl, hI.out⟩
end Go.Proofs.YteckefolakjafaaGreatDoor

