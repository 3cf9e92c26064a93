/-
  One field of a room: readField, and the closure that calls it. Conditions: the variables hold what their text lays; the field is below 2^32 bytes.
-/
import Derived.Test.YteckefolakjafaaGreatDoorBR33
import Derived.Test.YteckefolakjafaaGreatDoorBR34
import Derived.Test.YteckefolakjafaaGreatDoorBR27
set_option linter.unusedVariables false
namespace Go.Proofs.YteckefolakjafaaGreatDoor
open Go Go.Proofs Go.RowKit Go.Lib

theorem feats_len (x : Str) : (featsM x).1.length ≤ 9223372036854775807 ∨ True := .inr trivial
theorem tgo_start (d s b m n : Int) : ∀ (ps : List Str) (acc : List TimeD), (∀ t ∈ acc, t.2.2.1 ≤ 9223372036854775807) → ∀ t ∈ (tgo d s b m n ps acc).1, t.2.2.1 ≤ 9223372036854775807
  | [], acc, h => by simpa [tgo] using h
  | p :: ps, acc, h => by
    unfold tgo
    split
    · intro t ht; simp at ht
    · refine tgo_start d s b m n ps _ fun t ht => ?_
      rcases List.mem_append.1 ht with ht | ht
      · exact h t ht
      · rw [List.mem_singleton] at ht
        subst ht
        exact timeM_start d s b m n p
theorem timesM_start (d s b m n : Int) (x : Str) : ∀ t ∈ (timesM d s b m n x).1, t.2.2.1 ≤ 9223372036854775807 := by
  intro t ht
  have h := tgo_start d s b m n (S3.splitL x) [] (fun t ht => by simp at ht)
  unfold timesM at ht
  split at ht
  · simp at ht
  · split at ht
    · simp at ht
    · split at ht
      · simp at ht
      · exact h t ht
section
variable (d s b m n : Int) (x : Str) (r : RoomD) (q : Room5) (R : Nat) (W : World)
  (hX : Box5 W R (.string (ba r.1)) (.string (ba r.2.1)) (.int .i64 r.2.2.1) (.slice q.a1 r.2.2.2.1.length q.c1) (.slice q.a2 r.2.2.2.2.length q.c2)) (hR : RoomIn W (fun k => R < k ∧ k < W.heap.size) r q)
include hX hR
set_option maxHeartbeats 8000000 in
set_option maxRecDepth 100000 in
theorem readField0 : Calls Tryz.prog 30 #[.pointer (some ⟨R, 0, none⟩), .int .i64 0, .string (ba x), .agg #[.int .i64 d, .int .i64 s, .int .i64 b, .int .i64 m], .int .i64 n] W (FieldOut d s b m n 0 x r R W) := by
  have hb0 : Below W.heap.size W (W.alloc (.cells #[.int .i64 d, .int .i64 s, .int .i64 b, .int .i64 m] 24)) := (Below.refl _ W).alloc (Nat.le_refl _) _
  have hs0 : (W.alloc (.cells #[.int .i64 d, .int .i64 s, .int .i64 b, .int .i64 m] 24)).heap.size = W.heap.size + 1 := by simp
  have hG := Box4.new W d s b m 24
  unfold FieldOut
  have cC := fun W => readCode_any (ba x) W
  rw [lst_ba] at cC
  obtain ⟨u, hu⟩ : ∃ u : Str, (if S3.validC x = true then x else []) = u := ⟨_, rfl⟩
  have hub : (if S3.validC x = true then ba x else ⟨#[]⟩) = ba u := by rw [← hu]; split <;> rfl
  obtain ⟨e0, he0⟩ : ∃ e0 : Int, (if S3.validC x = true then (0 : Int) else 10) = e0 := ⟨_, rfl⟩
  have hS : setF d s b m n 0 x r = ((u, r.2), e0) := by rw [← hu, ← he0]; simp only [setF]; split <;> rfl
  rw [hub, he0] at cC
  rw [hS]
  obtain ⟨z, hz⟩ : ∃ z, ba x = z := ⟨_, rfl⟩
  rw [hz] at cC ⊢
  clear hub hu he0 hS
  have CC := hid cC
  clear cC
  have HX := hid hX
  have HR := hid hR
  have HB := hid hb0
  have HS0 := hid hs0
  have hlt := hX.lt
  have HG := hid hG
  clear hX hR hG hb0 hs0
  go_enter Tryz.func30, Tryz.ntmps30
  go_wp2_with fail
  generalize W.alloc (.cells #[.int .i64 d, .int .i64 s, .int .i64 b, .int .i64 m] 24) = W1 at HB HG HS0 ⊢
  refine (CC.out W1).mono ?_
  rintro e w2 ⟨rfl, rfl⟩
  have hB2 := HB.out
  have HB2 := hid hB2
  have HX2 := hid (HX.out.below hB2 hlt)
  obtain ⟨y0, y1, y2, y3, y4⟩ := HX2.out.cells
  have hf := HX2.out.free 0
  clear hB2
  go_wp2
  go_ret
  have k := RoomIn.past (j := 0) (v := .string (ba u)) HR.out HB2.out
  exact ⟨rfl, ⟨q, (HX2.out.put0 _), ⟨k.f, k.t, k.f1, k.f2, k.t1, k.t2⟩⟩, put_grown HB2.out R 0 _⟩
set_option maxHeartbeats 8000000 in
set_option maxRecDepth 100000 in
theorem readField1 : Calls Tryz.prog 30 #[.pointer (some ⟨R, 0, none⟩), .int .i64 1, .string (ba x), .agg #[.int .i64 d, .int .i64 s, .int .i64 b, .int .i64 m], .int .i64 n] W (FieldOut d s b m n 1 x r R W) := by
  have hb0 : Below W.heap.size W (W.alloc (.cells #[.int .i64 d, .int .i64 s, .int .i64 b, .int .i64 m] 24)) := (Below.refl _ W).alloc (Nat.le_refl _) _
  have hs0 : (W.alloc (.cells #[.int .i64 d, .int .i64 s, .int .i64 b, .int .i64 m] 24)).heap.size = W.heap.size + 1 := by simp
  have hG := Box4.new W d s b m 24
  unfold FieldOut
  have cC := fun W => readCode_any (ba x) W
  rw [lst_ba] at cC
  obtain ⟨u, hu⟩ : ∃ u : Str, (if S3.validC x = true then x else []) = u := ⟨_, rfl⟩
  have hub : (if S3.validC x = true then ba x else ⟨#[]⟩) = ba u := by rw [← hu]; split <;> rfl
  obtain ⟨e0, he0⟩ : ∃ e0 : Int, (if S3.validC x = true then (0 : Int) else 10) = e0 := ⟨_, rfl⟩
  have hS : setF d s b m n 1 x r = ((r.1, u, r.2.2), e0) := by rw [← hu, ← he0]; simp only [setF]; split <;> rfl
  rw [hub, he0] at cC
  rw [hS]
  obtain ⟨z, hz⟩ : ∃ z, ba x = z := ⟨_, rfl⟩
  rw [hz] at cC ⊢
  clear hub hu he0 hS
  have CC := hid cC
  clear cC
  have HX := hid hX
  have HR := hid hR
  have HB := hid hb0
  have HS0 := hid hs0
  have hlt := hX.lt
  have HG := hid hG
  clear hX hR hG hb0 hs0
  go_enter Tryz.func30, Tryz.ntmps30
  go_wp2_with fail
  generalize W.alloc (.cells #[.int .i64 d, .int .i64 s, .int .i64 b, .int .i64 m] 24) = W1 at HB HG HS0 ⊢
  refine (CC.out W1).mono ?_
  rintro e w2 ⟨rfl, rfl⟩
  have hB2 := HB.out
  have HB2 := hid hB2
  have HX2 := hid (HX.out.below hB2 hlt)
  obtain ⟨y0, y1, y2, y3, y4⟩ := HX2.out.cells
  have hf := HX2.out.free 1
  clear hB2
  go_wp2
  go_ret
  have k := RoomIn.past (j := 1) (v := .string (ba u)) HR.out HB2.out
  exact ⟨rfl, ⟨q, (HX2.out.put1 _), ⟨k.f, k.t, k.f1, k.f2, k.t1, k.t2⟩⟩, put_grown HB2.out R 1 _⟩
set_option maxHeartbeats 8000000 in
set_option maxRecDepth 100000 in
theorem readField2 (hE : Env7 W) : Calls Tryz.prog 30 #[.pointer (some ⟨R, 0, none⟩), .int .i64 2, .string (ba x), .agg #[.int .i64 d, .int .i64 s, .int .i64 b, .int .i64 m], .int .i64 n] W (FieldOut d s b m n 2 x r R W) := by
  have hb0 : Below W.heap.size W (W.alloc (.cells #[.int .i64 d, .int .i64 s, .int .i64 b, .int .i64 m] 24)) := (Below.refl _ W).alloc (Nat.le_refl _) _
  have hs0 : (W.alloc (.cells #[.int .i64 d, .int .i64 s, .int .i64 b, .int .i64 m] 24)).heap.size = W.heap.size + 1 := by simp
  have hG := Box4.new W d s b m 24
  unfold FieldOut
  have cC := fun W h => (lst_ba x) ▸ readSeats_any (ba x) W h
  obtain ⟨⟨u, e0⟩, hu⟩ : ∃ p, seatsM x = p := ⟨_, rfl⟩
  have hS : setF d s b m n 2 x r = ((r.1, r.2.1, u, r.2.2.2), e0) := by simp only [setF, hu]
  rw [hu] at cC
  rw [hS]
  obtain ⟨z, hz⟩ : ∃ z, ba x = z := ⟨_, rfl⟩
  rw [hz] at cC ⊢
  have CC := hid cC
  clear cC hS hu
  have HX := hid hX
  have HR := hid hR
  have HB := hid hb0
  have HS0 := hid hs0
  have hlt := hX.lt
  have HG := hid hG
  clear hX hR hG hb0 hs0
  go_enter Tryz.func30, Tryz.ntmps30
  go_wp2_with fail
  generalize W.alloc (.cells #[.int .i64 d, .int .i64 s, .int .i64 b, .int .i64 m] 24) = W1 at HB HG HS0 ⊢
  refine (CC.out W1 (hE.e.below HB.out hE.e.size)).mono ?_
  rintro e w2 ⟨rfl, hb2⟩
  have hB2 := HB.out.trans (hb2.mono HB.out.size)
  clear hb2
  have HB2 := hid hB2
  have HX2 := hid (HX.out.below hB2 hlt)
  obtain ⟨y0, y1, y2, y3, y4⟩ := HX2.out.cells
  have hf := HX2.out.free 2
  clear hB2
  go_wp2
  go_ret
  have k := RoomIn.past (j := 2) (v := .int .i64 u) HR.out HB2.out
  exact ⟨rfl, ⟨q, (HX2.out.put2 _), ⟨k.f, k.t, k.f1, k.f2, k.t1, k.t2⟩⟩, put_grown HB2.out R 2 _⟩
set_option maxHeartbeats 8000000 in
set_option maxRecDepth 100000 in
theorem readField3 (hE : Env7 W) (hx : x.length < 4294967281) : Calls Tryz.prog 30 #[.pointer (some ⟨R, 0, none⟩), .int .i64 3, .string (ba x), .agg #[.int .i64 d, .int .i64 s, .int .i64 b, .int .i64 m], .int .i64 n] W (FieldOut d s b m n 3 x r R W) := by
  have hb0 : Below W.heap.size W (W.alloc (.cells #[.int .i64 d, .int .i64 s, .int .i64 b, .int .i64 m] 24)) := (Below.refl _ W).alloc (Nat.le_refl _) _
  have hs0 : (W.alloc (.cells #[.int .i64 d, .int .i64 s, .int .i64 b, .int .i64 m] 24)).heap.size = W.heap.size + 1 := by simp
  have hG := Box4.new W d s b m 24
  unfold FieldOut
  have cC := fun W h => (lst_ba x) ▸ readFeatures_any (ba x) (by rw [Lib.size_eq]; exact hx) W h
  obtain ⟨⟨u, e0⟩, hu⟩ : ∃ p, featsM x = p := ⟨_, rfl⟩
  have hS : setF d s b m n 3 x r = ((r.1, r.2.1, r.2.2.1, u, r.2.2.2.2), e0) := by simp only [setF, hu]
  rw [hu] at cC
  rw [hS]
  obtain ⟨z, hz⟩ : ∃ z, ba x = z := ⟨_, rfl⟩
  rw [hz] at cC ⊢
  have CC := hid cC
  clear cC hS
  have HX := hid hX
  have HR := hid hR
  have HB := hid hb0
  have HS0 := hid hs0
  have hlt := hX.lt
  have HG := hid hG
  clear hX hR hG hb0 hs0
  go_enter Tryz.func30, Tryz.ntmps30
  go_wp2_with fail
  generalize W.alloc (.cells #[.int .i64 d, .int .i64 s, .int .i64 b, .int .i64 m] 24) = W1 at HB HG HS0 ⊢
  refine (CC.out W1 (hE.s.below HB.out)).mono ?_
  rintro e w2 ⟨⟨v, rfl, hrow⟩, hb2⟩
  have hB2 := HB.out.trans (hb2.mono HB.out.size)
  have hrow' : StrRow w2 W1.heap.size v u := hrow
  obtain ⟨A, c, rfl, hc1, hc2, hin⟩ := hrow'.strsIn
  have HIN := hid hin
  clear hb2 hrow hin hrow'
  have HB2 := hid hB2
  have HX2 := hid (HX.out.below hB2 hlt)
  obtain ⟨y0, y1, y2, y3, y4⟩ := HX2.out.cells
  have hf := HX2.out.free 3
  clear hB2
  go_wp2
  go_ret
  have hg := put_grown HB2.out R 3 (.slice A u.length c)
  have k := RoomIn.past (j := 3) (v := .slice A u.length c) HR.out HB2.out
  have hsz := HB.out.size
  refine ⟨rfl, ⟨⟨A, c, q.a2, q.c2⟩, (HX2.out.put3 _), ⟨?_, k.t, hc1, hc2, k.t1, k.t2⟩⟩, hg⟩
  refine (HIN.out.kept (w' := w2.setCell ⟨R, 3, none⟩ (.slice A u.length c)) (fun b hb => ?_)).mono (fun b hb => ⟨by omega, ?_⟩)
  · exact Below.heap_setCell w2 ⟨R, 3, none⟩ _ b (fun e => by have : b = R := e; omega)
  · simpa [World.setCell] using hb.2
set_option maxHeartbeats 8000000 in
set_option maxRecDepth 100000 in
theorem readField4 (hE : Env7 W) (hx : x.length < 4294967281) : Calls Tryz.prog 30 #[.pointer (some ⟨R, 0, none⟩), .int .i64 4, .string (ba x), .agg #[.int .i64 d, .int .i64 s, .int .i64 b, .int .i64 m], .int .i64 n] W (FieldOut d s b m n 4 x r R W) := by
  have hb0 : Below W.heap.size W (W.alloc (.cells #[.int .i64 d, .int .i64 s, .int .i64 b, .int .i64 m] 24)) := (Below.refl _ W).alloc (Nat.le_refl _) _
  have hs0 : (W.alloc (.cells #[.int .i64 d, .int .i64 s, .int .i64 b, .int .i64 m] 24)).heap.size = W.heap.size + 1 := by simp
  have hG := Box4.new W d s b m 24
  unfold FieldOut
  have cC := fun W h => (lst_ba x) ▸ readTimes_any d s b m n (ba x) (by rw [Lib.size_eq]; exact hx) W h
  have hst := timesM_start d s b m n x
  obtain ⟨⟨u, e0⟩, hu⟩ : ∃ p, timesM d s b m n x = p := ⟨_, rfl⟩
  rw [hu] at hst
  have hS : setF d s b m n 4 x r = ((r.1, r.2.1, r.2.2.1, r.2.2.2.1, u), e0) := by simp only [setF, hu]
  rw [hu] at cC
  rw [hS]
  obtain ⟨z, hz⟩ : ∃ z, ba x = z := ⟨_, rfl⟩
  rw [hz] at cC ⊢
  have CC := hid cC
  clear cC hS
  have HX := hid hX
  have HR := hid hR
  have HB := hid hb0
  have HS0 := hid hs0
  have hlt := hX.lt
  have HG := hid hG
  clear hX hR hG hb0 hs0
  obtain ⟨g0, g1, g2, g3, g4⟩ := HG.out
  go_enter Tryz.func30, Tryz.ntmps30
  go_wp2_with fail
  generalize W.alloc (.cells #[.int .i64 d, .int .i64 s, .int .i64 b, .int .i64 m] 24) = W1 at HB HG HS0 ⊢
  refine (CC.out W1 (hE.below HB.out (Nat.le_refl _))).mono ?_
  rintro e w2 ⟨⟨v, rfl, hrow⟩, hb2⟩
  have hB2 := HB.out.trans (hb2.mono HB.out.size)
  have hrow' : TimeRow w2 W1.heap.size v u := hrow
  obtain ⟨A, c, rfl, hc1, hc2, hin⟩ := hrow'.timesIn hst
  have HIN := hid hin
  clear hb2 hrow hin hrow'
  have HB2 := hid hB2
  have HX2 := hid (HX.out.below hB2 hlt)
  obtain ⟨y0, y1, y2, y3, y4⟩ := HX2.out.cells
  have hf := HX2.out.free 4
  clear hB2
  go_wp2
  go_ret
  have hg := put_grown HB2.out R 4 (.slice A u.length c)
  have k := RoomIn.past (j := 4) (v := .slice A u.length c) HR.out HB2.out
  have hsz := HB.out.size
  refine ⟨rfl, ⟨⟨q.a1, q.c1, A, c⟩, (HX2.out.put4 _), ⟨k.f, ?_, k.f1, k.f2, hc1, hc2⟩⟩, hg⟩
  refine (HIN.out.kept (w' := w2.setCell ⟨R, 4, none⟩ (.slice A u.length c)) (fun b hb => ?_)).mono (fun b hb => ⟨by omega, ?_⟩)
  · exact Below.heap_setCell w2 ⟨R, 4, none⟩ _ b (fun e => by have : b = R := e; omega)
  · simpa [World.setCell] using hb.2
theorem readField_any (hE : Env7 W) (hx : x.length < 4294967281) (i : Nat) (hi : i < 5) : Calls Tryz.prog 30 #[.pointer (some ⟨R, 0, none⟩), .int .i64 (i : Int), .string (ba x), .agg #[.int .i64 d, .int .i64 s, .int .i64 b, .int .i64 m], .int .i64 n] W (FieldOut d s b m n i x r R W) := by
  match i, hi with
  | 0, _ => exact readField0 d s b m n x r q R W hX hR
  | 1, _ => exact readField1 d s b m n x r q R W hX hR
  | 2, _ => exact readField2 d s b m n x r q R W hX hR hE
  | 3, _ => exact readField3 d s b m n x r q R W hX hR hE hx
  | 4, _ => exact readField4 d s b m n x r q R W hX hR hE hx
set_option maxHeartbeats 8000000 in
set_option maxRecDepth 100000 in
theorem read1_any (hE : Env7 W) (hx : x.length < 4294967281) (i : Nat) (hi : i < 5) (G N : Nat) (hG : Box4 W G d s b m) (hN : W.cell? ⟨N, 0, none⟩ = some (.int .i64 n)) :
    Calls Tryz.prog 29 (#[.pointer (some ⟨R, 0, none⟩), .int .i64 (i : Int), .string (ba x)] ++ #[.pointer (some ⟨G, 0, none⟩), .pointer (some ⟨N, 0, none⟩)]) W (FieldOut d s b m n i x r R W) := by
  have cF := hid (readField_any d s b m n x r q R W hX hR hE hx i hi)
  obtain ⟨g0, g1, g2, g3, g4⟩ := hG
  clear hX hR hE hx
  simp only [List.append_toArray, List.cons_append, List.nil_append]
  obtain ⟨z, hz⟩ : ∃ z, ba x = z := ⟨_, rfl⟩
  rw [hz] at cF ⊢
  obtain ⟨iz, hiz⟩ : ∃ iz : Int, (i : Int) = iz := ⟨_, rfl⟩
  rw [hiz] at cF ⊢
  go_enter Tryz.func29, Tryz.ntmps29
  go_wp2_with fail
  refine cF.out.mono ?_
  rintro e w2 h
  unfold FieldOut at h ⊢
  obtain ⟨rfl, h⟩ := h
  have H := hid h
  clear h
  go_wp2
  go_ret
  exact ⟨rfl, H.out⟩
end
end Go.Proofs.YteckefolakjafaaGreatDoor

