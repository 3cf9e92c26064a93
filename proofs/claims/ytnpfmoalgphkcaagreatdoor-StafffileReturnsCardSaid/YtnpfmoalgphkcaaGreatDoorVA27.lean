/-
  The records of lecturers by the specification: Write. Conditions: the lecturers lie in memory; the variables hold what their text lays.
  The walk of StafffileValid, given that the sanity check holds. Conditions: the lecturers lie in memory; the time begins below 2^63; the variables hold what their text lays.
  Reading lecturers, as mathematics: fields, entries, lists of records. No program.
  What reading a field and an entry leave behind; a lecturer in a block of its own. Conditions: as stated.
-/
import Derived.Test.YtnpfmoalgphkcaaGreatDoorVA23
import Derived.Test.YtnpfmoalgphkcaaGreatDoorVA24
import Derived.Test.YtnpfmoalgphkcaaGreatDoorVA26
import Derived.Test.YtnpfmoalgphkcaaGreatDoorVA20
import Derived.Test.YtnpfmoalgphkcaaGreatDoorVA19
import Derived.Test.YtnpfmoalgphkcaaGreatDoorVA22
import Derived.Test.YtnpfmoalgphkcaaGreatDoorVA21
import Derived.Deep.AppendLies
import Derived.Deep.RegionHeld3
import Derived.Laws.ResultCell
import Derived.RegionTactic
import Derived.WalkKit
import Derived.Deep.QuietTactic
set_option linter.unusedVariables false
namespace Go.Proofs.YtnpfmoalgphkcaaGreatDoor
open Go Go.Proofs Go.RowKit Go.Lib

/-- The grid's box and a lecturer of the list. -/
structure WL (w0 : World) (d s b m : Int) (fb o : Nat) (v0 v1 : Value) (w : World) : Prop where
  g : K1 w0 d s b m w
  c0 : w.cell? ⟨fb, o, none⟩ = some v0
  c1 : w.cell? ⟨fb, o + 1, none⟩ = some v1
  z : fb < w0.heap.size
theorem WL.next {w0 w w' : World} {d s b m : Int} {fb o : Nat} {v0 v1 : Value} (h : WL w0 d s b m fb o v0 v1 w) (q : Below w.heap.size w w') : WL w0 d s b m fb o v0 v1 w' := by
  have e := q.block fb (Nat.lt_of_lt_of_le h.z h.g.b.size)
  exact ⟨h.g.next q, (World.cell?_of_block (w := w) e).trans h.c0, (World.cell?_of_block (w := w) e).trans h.c1, h.z⟩
theorem WL.drew {w0 w : World} {d s b m : Int} {fb o : Nat} {v0 v1 : Value} (h : WL w0 d s b m fb o v0 v1 w) : WL w0 d s b m fb o v0 v1 w.drew := h.next (Below.refl _ w).drew
theorem WL.grown {w0 w w' : World} {d s b m : Int} {fb o : Nat} {v0 v1 : Value} {row : Option Nat} (h : WL w0 d s b m fb o v0 v1 w) (hg : w.grownBy w' row) (hr : ∀ k, row = some k → w0.heap.size + 1 ≤ k) : WL w0 d s b m fb o v0 v1 w' := by
  have e := hg.block fb (Nat.lt_of_lt_of_le h.z h.g.b.size) (fun e => by have := hr _ e.symm; have := h.z; omega)
  exact ⟨h.g.grown hg hr, (World.cell?_of_block (w := w) e).trans h.c0, (World.cell?_of_block (w := w) e).trans h.c1, h.z⟩

set_option maxHeartbeats 16000000 in
set_option maxRecDepth 100000 in
theorem rlwrite_any (d s b m n : Int) (A : Option Addr) (l : List LectD) (c : Nat) (w : World) (h : LectsIn w (fun k => k < w.heap.size) A l) (hE : REnv7 w) :
    Calls Tryz.prog 9 #[.slice A l.length c, .agg #[.int .i64 d, .int .i64 s, .int .i64 b, .int .i64 m], .int .i64 n] w (WriteOut (writeL d s b m n l) w) := by
  obtain ⟨iS, hiS, hzS, hsS, hbS⟩ := info_parts infoStrs7
  unfold WriteOut writeL
  have hk := K1.first w d s b m 24
  have HK := hid hk
  have HH := hid (fun (w' : World) (hb : Below w.heap.size w w') => h.below hb)
  have HE := hid (fun (w' : World) (hb : Below w.heap.size w w') => hE.below hb (Nat.le_refl _))
  have cV : Hid (∀ w', Below w.heap.size w w' → Calls Tryz.prog 14 #[.slice A l.length c, .agg #[.int .i64 d, .int .i64 s, .int .i64 b, .int .i64 m], .int .i64 n] w' (Says (.int .i64 (validL d s b m n l)) w')) :=
    hid (fun w' hb => rlvalid_any d s b m n A l c w' ((h.below hb).mono (fun k hk => Nat.lt_of_lt_of_le hk hb.size)))
  have cV' := cV.out
  unfold Says at cV'
  obtain ⟨R, hR⟩ : ∃ R, validL d s b m n l = R := ⟨_, rfl⟩
  rw [hR] at cV' ⊢
  have CV := hid cV'
  clear hk h hE cV cV'
  by_cases hR0 : R = 0
  · subst hR0
    obtain ⟨h16, hok⟩ := validL_ok hR
    have HOK := hid hok
    rw [if_neg (by simp)]
    clear hR hok
    go_enter Tryz.func9, Tryz.ntmps9
    go_wp2_with fail
    refine (CV.out _ HK.out.b).mono ?_
    rintro e w1 ⟨rfl, hb⟩
    have HK1 := hid (HK.out.next hb)
    clear hb HK CV
    go_wp2
    go_loopw [9, 10] (fun v iv wr => ∃ (i : Nat) (L : List RowA), iv = .int .i64 (i : Int) ∧ i ≤ l.length ∧ Hid (L.map (·.1) = (l.take i).map (rowL d s b m n)) ∧ Hid (RowsRow wr (w.heap.size + 1) v L) ∧ Hid (K1 w d s b m wr)) (fun _ iv _ => l.length - (RowKit.intOf iv).toNat)
    case atStart => exact ⟨0, [], rfl, Nat.zero_le _, hid rfl, hid (RowsRow.nil _ _), hid HK1.out⟩
    case round =>
      obtain ⟨i, L, rfl, hi, hL, hrow, hKK⟩ := hrel
      obtain ⟨Ar, cr, hvr, _⟩ := hrow.out.rowsIn
      subst hvr
      have hLl : L.length = i := by
        have := congrArg List.length hL.out
        rw [List.length_map, List.length_map, List.length_take] at this
        omega
      have HLL := hid hLl
      clear hLl
      by_cases hlt : i < l.length
      · have hltz : (i : Int) < (l.length : Int) := by omega
        have di : decide (l.length ≤ i) = false := decide_eq_false (by omega)
        obtain ⟨fb, fo, ⟨A2, c2⟩, rfl, hfb, hri, hcell0, hcell1⟩ := (HH.out _ hKK.out.b).at_ hlt
        have hn2 := lectM_len (HOK.out _ (List.getElem_mem hlt))
        have hst : (l.take (i + 1)).map (rowL d s b m n) = L.map (·.1) ++ [rowL d s b m n l[i]] := by rw [hL.out, List.take_succ_eq_append_getElem hlt, List.map_append]; rfl
        obtain ⟨⟨code, ts⟩, hr⟩ : ∃ r, l[i] = r := ⟨_, rfl⟩
        rw [hr] at hcell0 hcell1 hst hri hn2
        obtain ⟨ht, ht1, ht2⟩ := hri
        dsimp only at hcell0 hcell1 ht ht1 ht2 hn2
        change (l.take (i + 1)).map (rowL d s b m n) = L.map (·.1) ++ [[code, timesS d s b m n ts]] at hst
        have hk0 : WL w d s b m fb (fo + i * 2) (.string (ba code)) (.slice A2 ts.length c2) wr := ⟨hKK.out, hcell0, hcell1, hfb⟩
        have cT : ∀ (w' : World), Below w.heap.size wr w' → Calls Tryz.prog 32 #[.slice A2 ts.length c2, .agg #[.int .i64 d, .int .i64 s, .int .i64 b, .int .i64 m], .int .i64 n] w' (Says (.string (ba (timesS d s b m n ts))) w') := fun w' hb => rwriteTimes_any d s b m n A2 ts c2 w.heap.size w' (Nat.le_trans hKK.out.b.size hb.size) (ht.below hb) hn2 (HE.out w' (hKK.out.b.trans hb))
        unfold Says at cT
        obtain ⟨X1, hX1⟩ : ∃ X, ba code = X := ⟨_, rfl⟩
        obtain ⟨X5, hX5⟩ : ∃ X, ba (timesS d s b m n ts) = X := ⟨_, rfl⟩
        obtain ⟨RW, hRW⟩ : ∃ r, [code, timesS d s b m n ts] = r := ⟨_, rfl⟩
        have hrw5 : RW.length = 2 := by rw [← hRW]; rfl
        have hrwv : S3.strVals RW = [.string X1, .string X5] := by rw [← hRW, ← hX1, ← hX5]; rfl
        rw [hRW] at hst
        rw [hX1] at hk0
        rw [hX5] at cT
        obtain ⟨T1, hT1⟩ : ∃ F, ts.length = F := ⟨_, rfl⟩
        rw [hT1] at hk0 cT
        have HK0 := hid hk0
        have CT := hid cT
        have HST := hid hst
        have HR5 := hid hrw5
        have HRV := hid hrwv
        clear hr hRW hX1 hX5 hT1 hst hk0 hcell0 hcell1 ht ht1 ht2 hn2 cT hrw5 hrwv
        go_upto_region 8 with fail
        refine wp_region_held_drew (S := WL w d s b m fb (fo + i * 2) (.string X1) (.slice A2 T1 c2)) (by kernel_rfl) HK0.out.drew (fun hHeld => ?_)
        (refine wpAnyH_take (i := 0) (oi := _) (v := ?_) rfl (by kernel_rfl) (by kernel_rfl) (by kernel_rfl) (fun _ _ _ h => h) (Or.inl ⟨by rfl, ?_⟩) (by assumption) ?_; rotate_left; (intro wS hSw; obtain ⟨⟨⟨x0, x1, x2, x3, _⟩, _⟩, y0, y1, _⟩ := hSw; (try simp only [List.getElem_toArray, List.getElem_cons_zero]); go_simp; (try with_reducible rfl)))
        try simp only [List.getElem_toArray, List.getElem_cons_zero, Act.put, List.setIfInBounds_toArray, List.set_cons_zero, List.set_cons_succ]
        (refine wpAnyH_take (i := 1) (oi := _) (v := ?_) rfl (by kernel_rfl) (by kernel_rfl) (by kernel_rfl) (fun _ _ _ h => h) (Or.inl ⟨by rfl, ?_⟩) (by assumption) ?_; rotate_left; (intro wS hSw; obtain ⟨⟨⟨x0, x1, x2, x3, _⟩, _⟩, y0, y1, _⟩ := hSw; (try simp only [List.getElem_toArray, List.getElem_cons_succ, List.getElem_cons_zero]); go_simp; (try with_reducible rfl)))
        try simp only [List.getElem_toArray, List.getElem_cons_succ, List.getElem_cons_zero, Act.put, List.setIfInBounds_toArray, List.set_cons_zero, List.set_cons_succ]
        (refine wpAnyH_take (i := 2) (oi := _) (v := ?_) rfl (by kernel_rfl) (by kernel_rfl) (by kernel_rfl) (fun _ _ _ h => h) (Or.inl ⟨by rfl, ?_⟩) (by assumption) ?_; rotate_left; (intro wS hSw; obtain ⟨⟨⟨x0, x1, x2, x3, _⟩, _⟩, y0, y1, _⟩ := hSw; (try simp only [List.getElem_toArray, List.getElem_cons_succ, List.getElem_cons_zero]); go_simp; (try with_reducible rfl)))
        try simp only [List.getElem_toArray, List.getElem_cons_succ, List.getElem_cons_zero, Act.put, List.setIfInBounds_toArray, List.set_cons_zero, List.set_cons_succ]
        (refine wpAnyH_take (i := 3) (oi := _) (v := ?_) rfl (by kernel_rfl) (by kernel_rfl) (by kernel_rfl) (fun _ _ _ h => h) (Or.inl ⟨by rfl, ?_⟩) (by assumption) ?_; rotate_left; (intro wS hSw; obtain ⟨⟨⟨x0, x1, x2, x3, _⟩, _⟩, y0, y1, _⟩ := hSw; (try simp only [List.getElem_toArray, List.getElem_cons_succ, List.getElem_cons_zero]); go_simp; (try with_reducible rfl)))
        try simp only [List.getElem_toArray, List.getElem_cons_succ, List.getElem_cons_zero, Act.put, List.setIfInBounds_toArray, List.set_cons_zero, List.set_cons_succ]
        (refine wpAnyH_take (i := 4) (oi := _) (v := ?_) rfl (by kernel_rfl) (by kernel_rfl) (by kernel_rfl) (fun _ _ _ h => h) (Or.inl ⟨by rfl, ?_⟩) (by assumption) ?_; rotate_left; (intro wS hSw; obtain ⟨⟨⟨x0, x1, x2, x3, _⟩, _⟩, y0, y1, _⟩ := hSw; (try simp only [List.getElem_toArray, List.getElem_cons_succ, List.getElem_cons_zero]); go_simp; (try with_reducible rfl)))
        try simp only [List.getElem_toArray, List.getElem_cons_succ, List.getElem_cons_zero, Act.put, List.setIfInBounds_toArray, List.set_cons_zero, List.set_cons_succ]
        (refine wpAnyH_take (i := 5) (oi := _) (v := ?_) rfl (by kernel_rfl) (by kernel_rfl) (by kernel_rfl) (fun _ _ _ h => h) (Or.inl ⟨by rfl, ?_⟩) (by assumption) ?_; rotate_left; (intro wS hSw; obtain ⟨⟨⟨x0, x1, x2, x3, _⟩, _⟩, y0, y1, _⟩ := hSw; (try simp only [List.getElem_toArray, List.getElem_cons_succ, List.getElem_cons_zero]); go_simp; (try with_reducible rfl)))
        try simp only [List.getElem_toArray, List.getElem_cons_succ, List.getElem_cons_zero, Act.put, List.setIfInBounds_toArray, List.set_cons_zero, List.set_cons_succ]
        (refine wpAnyH_take (i := 6) (oi := _) (v := ?_) rfl (by kernel_rfl) (by kernel_rfl) (by kernel_rfl) (fun _ _ _ h => h) (Or.inl ⟨by rfl, ?_⟩) (by assumption) ?_; rotate_left; (intro wS hSw; obtain ⟨⟨⟨x0, x1, x2, x3, _⟩, _⟩, y0, y1, _⟩ := hSw; (try simp only [List.getElem_toArray, List.getElem_cons_succ, List.getElem_cons_zero]); go_simp; (try with_reducible rfl)))
        try simp only [List.getElem_toArray, List.getElem_cons_succ, List.getElem_cons_zero, Act.put, List.setIfInBounds_toArray, List.set_cons_zero, List.set_cons_succ]
        (refine wpAnyH_take (i := 7) (oi := _) (v := ?_) rfl (by kernel_rfl) (by kernel_rfl) (by kernel_rfl) (fun _ _ _ h => h) (Or.inl ⟨by rfl, ?_⟩) (by assumption) ?_; rotate_left; (intro wS hSw; obtain ⟨⟨⟨x0, x1, x2, x3, _⟩, _⟩, y0, y1, _⟩ := hSw; (try simp only [List.getElem_toArray, List.getElem_cons_succ, List.getElem_cons_zero]); go_simp; (try with_reducible rfl)))
        try simp only [List.getElem_toArray, List.getElem_cons_succ, List.getElem_cons_zero, Act.put, List.setIfInBounds_toArray, List.set_cons_zero, List.set_cons_succ]
        (refine wpAnyH_take (i := 8) (oi := _) (v := ?_) rfl (by kernel_rfl) (by kernel_rfl) (by kernel_rfl) (fun _ _ _ h => h) (Or.inl ⟨by rfl, ?_⟩) (by assumption) ?_; rotate_left; (intro wS hSw; obtain ⟨⟨⟨x0, x1, x2, x3, _⟩, _⟩, y0, y1, _⟩ := hSw; (try simp only [List.getElem_toArray, List.getElem_cons_succ, List.getElem_cons_zero]); go_simp; (try with_reducible rfl)))
        try simp only [List.getElem_toArray, List.getElem_cons_succ, List.getElem_cons_zero, Act.put, List.setIfInBounds_toArray, List.set_cons_zero, List.set_cons_succ]
        (refine wpAnyH_take (i := 9) (oi := _) (v := ?_) rfl (by kernel_rfl) (by kernel_rfl) (by kernel_rfl) (fun _ _ _ h => h) (Or.inl ⟨by rfl, ?_⟩) (by assumption) ?_; rotate_left; (intro wS hSw; obtain ⟨⟨⟨x0, x1, x2, x3, _⟩, _⟩, y0, y1, _⟩ := hSw; (try simp only [List.getElem_toArray, List.getElem_cons_succ, List.getElem_cons_zero]); go_simp; (try with_reducible rfl)))
        try simp only [List.getElem_toArray, List.getElem_cons_succ, List.getElem_cons_zero, Act.put, List.setIfInBounds_toArray, List.set_cons_zero, List.set_cons_succ]
        (refine wpAnyH_take (i := 10) (oi := _) (v := ?_) rfl (by kernel_rfl) (by kernel_rfl) (by kernel_rfl) (fun _ _ _ h => h) (Or.inl ⟨by rfl, ?_⟩) (by assumption) ?_; rotate_left; (intro wS hSw; obtain ⟨⟨⟨x0, x1, x2, x3, _⟩, _⟩, y0, y1, _⟩ := hSw; (try simp only [List.getElem_toArray, List.getElem_cons_succ, List.getElem_cons_zero]); go_simp; (try with_reducible rfl)))
        try simp only [List.getElem_toArray, List.getElem_cons_succ, List.getElem_cons_zero, Act.put, List.setIfInBounds_toArray, List.set_cons_zero, List.set_cons_succ]
        (refine wpAnyH_take (i := 11) (oi := _) (v := ?_) rfl (by kernel_rfl) (by kernel_rfl) (by kernel_rfl) (fun _ _ _ h => h) (Or.inl ⟨by rfl, ?_⟩) (by assumption) ?_; rotate_left; (intro wS hSw; obtain ⟨⟨⟨x0, x1, x2, x3, _⟩, _⟩, y0, y1, _⟩ := hSw; (try simp only [List.getElem_toArray, List.getElem_cons_succ, List.getElem_cons_zero]); go_simp; (try with_reducible rfl)))
        try simp only [List.getElem_toArray, List.getElem_cons_succ, List.getElem_cons_zero, Act.put, List.setIfInBounds_toArray, List.set_cons_zero, List.set_cons_succ]
        (refine wpAnyH_take (i := 12) (oi := _) (v := ?_) rfl (by kernel_rfl) (by kernel_rfl) (by kernel_rfl) (fun _ _ _ h => h) (Or.inl ⟨by rfl, ?_⟩) (by assumption) ?_; rotate_left; (intro wS hSw; obtain ⟨⟨⟨x0, x1, x2, x3, _⟩, _⟩, y0, y1, _⟩ := hSw; (try simp only [List.getElem_toArray, List.getElem_cons_succ, List.getElem_cons_zero]); go_simp; (try with_reducible rfl)))
        try simp only [List.getElem_toArray, List.getElem_cons_succ, List.getElem_cons_zero, Act.put, List.setIfInBounds_toArray, List.set_cons_zero, List.set_cons_succ]
        (refine wpAnyH_ready (rs := [13]) (by kernel_rfl) (by simp) ?_; refine AllReadyH.cons (o := _) rfl (fun K hK => ?_) AllReadyH.nil; (try simp only [List.getElem_toArray, List.getElem_cons_succ, List.getElem_cons_zero]); go_simp; go_at_call 32; refine (CT.out _ ((Below.refl _ wr).drew)).mono ?_; rintro e w4 ⟨rfl, hb4⟩; have hHeld := hHeld.next hb4; have HB4 := hid (((Below.refl wr.heap.size wr).drew).trans hb4); have HK4 := hid hHeld; have hrow4 : w4.ownsRow (w.heap.size + 1) 58 1 (.slice Ar L.length cr) L.length (L.map rowV) := row_under hrow.out.1 HB4.out; have HRow4 := hid hrow4; have HC3 : Hid (L.length + 1 ≤ maxLen) := (by unfold maxLen; exact hid (by have := HLL.out; omega)); have HC4 : Hid ((L.length + 1) * 24 ≤ 140737488355328) := hid (by have := HLL.out; omega); clear hb4 hrow4; go_wp2_with fail; refine hK.out _ _ hHeld (fun hHeld => ?_); clear hK K)
        try simp only [List.getElem_toArray, List.getElem_cons_succ, List.getElem_cons_zero, Act.put, List.setIfInBounds_toArray, List.set_cons_zero, List.set_cons_succ]
        (refine wpAnyH_ready (rs := [14]) (by kernel_rfl) (by simp) ?_; refine AllReadyH.cons (o := _) rfl (fun K hK => ?_) AllReadyH.nil; (try simp only [List.getElem_toArray, List.getElem_cons_succ, List.getElem_cons_zero]); go_simp; go_wp2_with fail; refine hK.out _ _ (hHeld.next ((Below.refl _ _).alloc (Nat.le_refl _) _)) (fun hHeld => ?_); clear hK K)
        try simp only [List.getElem_toArray, List.getElem_cons_succ, List.getElem_cons_zero, Act.put, List.setIfInBounds_toArray, List.set_cons_zero, List.set_cons_succ]
        (refine wpAnyH_ready (rs := [15]) (by kernel_rfl) (by simp) ?_; refine AllReadyH.cons (o := _) rfl (fun K hK => ?_) AllReadyH.nil; (try simp only [List.getElem_toArray, List.getElem_cons_succ, List.getElem_cons_zero]); go_simp; go_wp2_with fail; refine hK.out _ _ (hHeld.next ((Below.refl _ _).alloc (Nat.le_refl _) _)) (fun hHeld => ?_); clear hK K)
        try simp only [List.getElem_toArray, List.getElem_cons_succ, List.getElem_cons_zero, Act.put, List.setIfInBounds_toArray, List.set_cons_zero, List.set_cons_succ]
        (refine wpAnyH_ready (rs := [16]) (by kernel_rfl) (by simp) ?_; refine AllReadyH.cons (o := _) rfl (fun K hK => ?_) AllReadyH.nil; (try simp only [List.getElem_toArray, List.getElem_cons_succ, List.getElem_cons_zero]); refine step_append_lies (a := { tmps := _, defers := _ }) _ (by rfl) _ _ _ (by rfl) (w.heap.size + 1) 58 iS (.slice none 0 0) 1 24 Tryz.underlying27 hiS hzS hsS hbS rfl (by decide) (.slice Ar L.length cr) L.length (L.map rowV) (by rfl) (World.ownsRow.alloc (World.ownsRow.alloc HRow4.out _) _) ⟨w4.heap.size + 1, 0, none⟩ 1 1 [.slice (some ⟨w4.heap.size, 0, none⟩) 2 2] (by rfl) (by rfl) (by have := one_new (w4.alloc (.cells #[.string X1, .string X5] 9)) (.slice (some ⟨w4.heap.size, 0, none⟩) 2 2) 58; simpa using this) (one_slice _ _ _) (by decide) HC3.out HC4.out (by have := HK4.out.g.x.lt; simp; omega) (w4.heap.size + 1 + 1) (by simp) ?_; intro g7 cap7 w7 hown7 hgrow7 hat7 hlt7; have hHeld := hHeld.grown hgrow7 (fun k hk => (World.ownsRow.lt HRow4.out k hk).1); have HOWN := hid hown7; have HGR := hid hgrow7; have HAT := hid hat7; clear hown7 hgrow7 hat7; refine hK.out _ _ hHeld (fun hHeld => ?_); clear hK K)
        try simp only [Act.put, List.setIfInBounds_toArray, List.set_cons_zero, List.set_cons_succ]
        (refine wpAnyH_take (i := 17) (oi := _) (v := ?_) rfl (by kernel_rfl) (by kernel_rfl) (by kernel_rfl) (fun _ _ _ h => h) (Or.inl ⟨by rfl, ?_⟩) (by assumption) ?_; rotate_left; (intro wS hSw; obtain ⟨⟨⟨x0, x1, x2, x3, _⟩, _⟩, y0, y1, _⟩ := hSw; (try simp only [List.getElem_toArray, List.getElem_cons_succ, List.getElem_cons_zero]); go_simp; (try with_reducible rfl)))
        try simp only [List.getElem_toArray, List.getElem_cons_succ, List.getElem_cons_zero, Act.put, List.setIfInBounds_toArray, List.set_cons_zero, List.set_cons_succ]
        refine wpAnyH_done (by kernel_rfl) ?_ _
        have hin : S3.StrRow (w4.alloc (.cells #[.string X1, .string X5] 9)) w4.heap.size (.slice (some ⟨w4.heap.size, 0, none⟩) RW.length 2) RW := by
          unfold S3.StrRow
          rw [HRV.out, HR5.out]
          exact World.ownsRow_lit w4 #[.string X1, .string X5] 2 (Nat.le_refl _) (by decide) rfl
        have hown7 := HOWN.out
        rw [show (2 : Nat) = RW.length from HR5.out.symm] at hown7
        have hsn := RowsRow.snoc (c := 2) hrow.out (by have := HK4.out.g.x.lt; omega) HB4.out ((Below.refl w4.heap.size w4).alloc (Nat.le_refl _) _) hin ((Below.refl _ (w4.alloc (.cells #[.string X1, .string X5] 9))).alloc (Nat.le_refl _) _) (by rw [HR5.out] at hown7 ⊢; exact hown7) HGR.out (by
          rcases HAT.out with h | h
          · exact .inl h.symm
          · exact .inr (by rw [h]; simp [Value.ownBlock]))
        have HSN := hid hsn
        have HK7 := hid hHeld.g
        have HL2 : Hid ((L ++ [((RW, some ⟨w4.heap.size, 0, none⟩, 2) : RowA)]).map (·.1) = (l.take (i + 1)).map (rowL d s b m n)) := hid (by rw [HST.out, List.map_append]; rfl)
        clear hin hown7 hsn hHeld
        go_wp2
        go_roundw
        case rel => exact ⟨i + 1, L ++ [((RW, some ⟨w4.heap.size, 0, none⟩, 2) : RowA)], by go_num, by omega, HL2, HSN, HK7⟩
        case measure => simp [RowKit.intOf]; omega
      · have hltz : ¬ (i : Int) < (l.length : Int) := by omega
        have hL2 : Hid (L.map (·.1) = l.map (rowL d s b m n)) := hid (by rw [hL.out, List.take_of_length_le (by omega)])
        go_wp2
        go_ret2
        exact ⟨⟨_, L, hL2.out, rfl, hrow.out.low (by omega)⟩, hKK.out.b⟩
  · have hR1 : (R != 0) = true := by simpa using hR0
    have hR2 : (R == 0) = false := by simpa using hR0
    rw [if_pos hR0]
    clear hR
    go_enter Tryz.func9, Tryz.ntmps9
    go_wp2_with fail
    refine (CV.out _ HK.out.b).mono ?_
    rintro e w1 ⟨rfl, hb⟩
    have HK1 := hid (HK.out.next hb)
    clear hb HK CV
    go_wp2
    go_ret2
    exact ⟨⟨_, [], rfl, rfl, RowsRow.nil _ _⟩, HK1.out.b⟩
end Go.Proofs.YtnpfmoalgphkcaaGreatDoor

set_option linter.unusedVariables false
namespace Go.Proofs.YtnpfmoalgphkcaaGreatDoor
open Go Go.Proofs Go.RowKit Go.Lib

/-- Behind both calls of Write: the boxes of the grid and the time. -/
structure VK9 (w0 w2 : World) (d s b m : Int) (t : TimeD) (w : World) : Prop where
  g : Box4 w w0.heap.size d s b m
  t : Box4 w (w0.heap.size + 1) t.1 t.2.1 t.2.2.1 t.2.2.2
  b : Below w2.heap.size w2 w
  a : Below w0.heap.size w0 w
theorem VK9.next {w0 w2 w w' : World} {d s b m : Int} {t : TimeD} (h : VK9 w0 w2 d s b m t w) (k : Below w.heap.size w w') : VK9 w0 w2 d s b m t w' :=
  ⟨h.g.next k h.g.lt, h.t.next k h.t.lt, h.b.trans (k.mono h.b.size), h.a.trans (k.mono h.a.size)⟩
/-- And a lecturer of the list. -/
structure VR9 (w0 w2 : World) (d s b m : Int) (t : TimeD) (fb o : Nat) (v0 v1 : Value) (w : World) : Prop where
  v : VK9 w0 w2 d s b m t w
  c0 : w.cell? ⟨fb, o, none⟩ = some v0
  c1 : w.cell? ⟨fb, o + 1, none⟩ = some v1
  z : fb < w0.heap.size
theorem VR9.next {w0 w2 w w' : World} {d s b m : Int} {t : TimeD} {fb o : Nat} {v0 v1 : Value} (h : VR9 w0 w2 d s b m t fb o v0 v1 w) (k : Below w.heap.size w w') : VR9 w0 w2 d s b m t fb o v0 v1 w' := by
  have e := k.block fb (Nat.lt_of_lt_of_le h.z h.v.a.size)
  exact ⟨h.v.next k, (World.cell?_of_block (w := w) e).trans h.c0, (World.cell?_of_block (w := w) e).trans h.c1, h.z⟩

set_option maxHeartbeats 16000000 in
set_option maxRecDepth 100000 in
theorem lvalidLaw_any (d s b m : Int) (t : TimeD) (ht : t.2.2.1 ≤ 9223372036854775807) (A : Option Addr) (l : List LectD) (c : Nat) (w : World) (h : LectsIn w (fun k => k < w.heap.size) A l) (hlc : l.length ≤ 9223372036854775807) (hE : Env7 w) (hR : REnv7 w)
    (hA : ∀ w', Below w.heap.size w w' → Calls Tryz.prog 12 #[] w' (Says (.bool true) w')) :
    Calls Tryz.prog 3 #[.slice A l.length c, .agg #[.int .i64 d, .int .i64 s, .int .i64 b, .int .i64 m], timeV t] w fun e w' => e = .returned (.bool true) ∧ Below w.heap.size w w' := by
  obtain ⟨t0, t1, t2, n⟩ := t
  dsimp only at ht
  unfold timeV
  dsimp only
  have hG := Box4.new w d s b m 24
  have hb1 := (Below.refl w.heap.size w).alloc (Nat.le_refl _) (.cells #[.int .i64 d, .int .i64 s, .int .i64 b, .int .i64 m] 24)
  have hs1 : (w.alloc (.cells #[.int .i64 d, .int .i64 s, .int .i64 b, .int .i64 m] 24)).heap.size = w.heap.size + 1 := by simp
  obtain ⟨w1, hw1⟩ : ∃ w1, w.alloc (.cells #[.int .i64 d, .int .i64 s, .int .i64 b, .int .i64 m] 24) = w1 := ⟨_, rfl⟩
  rw [hw1] at hG hb1 hs1
  have hT := Box4.new w1 t0 t1 t2 n 26
  have hb2 := (Below.refl w1.heap.size w1).alloc (Nat.le_refl _) (.cells #[.int .i64 t0, .int .i64 t1, .int .i64 t2, .int .i64 n] 26)
  obtain ⟨wz, hw2⟩ : ∃ wz, w1.alloc (.cells #[.int .i64 t0, .int .i64 t1, .int .i64 t2, .int .i64 n] 26) = wz := ⟨_, rfl⟩
  rw [hw2] at hT hb2
  rw [hs1] at hT
  have hk : VK9 w w d s b m (t0, t1, t2, n) wz := ⟨hG.next hb2 hG.lt, hT, hb1.trans (hb2.mono (by omega)), hb1.trans (hb2.mono (by omega))⟩
  have HK := hid hk
  have hin : ∀ w', Below w.heap.size w w' → LectsIn w' (fun k => k < w'.heap.size) A l := fun w' hb => (h.below hb).mono (fun k hk => Nat.lt_of_lt_of_le hk hb.size)
  have cW := fun w' (hb : Below w.heap.size w w') => lwrite_any d s b m n A l c w' (hin w' hb) (hE.below hb (Nat.le_refl _))
  have cR := fun w' (hb : Below w.heap.size w w') => rlwrite_any d s b m n A l c w' (hin w' hb) (hR.below hb (Nat.le_refl _))
  have cV := fun w' (hb : Below w.heap.size w w') => lvalid_any d s b m n A l c w' (hin w' hb)
  have cQ := fun w' (hb : Below w.heap.size w w') => rlvalid_any d s b m n A l c w' (hin w' hb)
  unfold WriteOut at cW cR
  unfold Says at cV cQ hA
  obtain ⟨⟨RL, RE⟩, hO⟩ : ∃ O, writeL d s b m n l = O := ⟨_, rfl⟩
  obtain ⟨V, hV⟩ : ∃ V, validL d s b m n l = V := ⟨_, rfl⟩
  rw [hO] at cW cR
  rw [hV] at cV cQ
  have CW := hid cW
  have CR := hid cR
  have CV := hid cV
  have CQ := hid cQ
  have CA := hid hA
  have HH := hid h
  have HW1 := hid hw1
  have HW2 := hid hw2
  clear hk h hE hR hin cW cR cV cQ hA hO hV hG hb1 hs1 hw1 hT hb2 hw2
  go_enter Tryz.func3, Tryz.ntmps3
  go_wp2_with fail
  (try rw [HW1.out])
  (try rw [HW2.out])
  refine (CW.out _ HK.out.a).mono ?_
  rintro e wa ⟨⟨v1, L1, hL1, rfl, hr1⟩, hba⟩
  have HK1 := hid (HK.out.next hba)
  have HR1 := hid hr1
  clear HK hba hr1
  obtain ⟨g0, g1, g2, g3, _⟩ := HK1.out.g
  go_wp2_with fail
  refine (CR.out _ HK1.out.a).mono ?_
  rintro e w2 ⟨⟨v2, L2, hL2, rfl, hr2⟩, hb2⟩
  obtain ⟨A1, c1, rfl, hl1, hm1, hi1⟩ := HR1.out.rowsIn
  obtain ⟨A2, c2, rfl, hl2, hm2, hi2⟩ := hr2.rowsIn
  rw [hL1] at hi1
  rw [hL2] at hi2
  have e1 : L1.length = RL.length := by rw [← hL1, List.length_map]
  have e2 : L2.length = RL.length := by rw [← hL2, List.length_map]
  rw [e1] at hl1
  rw [e2] at hl2
  rw [e1, e2]
  have hi1' : RowsIn w2 (fun k => k < w2.heap.size) A1 RL := (hi1.kept (fun k hk => hb2.block k hk.2)).mono (fun k hk => Nat.lt_of_lt_of_le hk.2 hb2.size)
  have hi2' : RowsIn w2 (fun k => k < w2.heap.size) A2 RL := hi2.mono (fun k hk => hk.2)
  have hkz : VK9 w w2 d s b m (t0, t1, t2, n) w2 := ⟨(HK1.out.next hb2).g, (HK1.out.next hb2).t, Below.refl _ _, (HK1.out.next hb2).a⟩
  have HKZ := hid hkz
  have cA : Hid (∀ wx, VK9 w w2 d s b m (t0, t1, t2, n) wx → Calls Tryz.prog 12 #[] wx fun e w' => e = .returned (.bool true) ∧ VK9 w w2 d s b m (t0, t1, t2, n) w') := hid fun wx h => (CA.out wx h.a).mono fun e w' ⟨he, hb⟩ => ⟨he, h.next hb⟩
  have cV : Hid (∀ wx, VK9 w w2 d s b m (t0, t1, t2, n) wx → Calls Tryz.prog 13 #[.slice A l.length c, .agg #[.int .i64 d, .int .i64 s, .int .i64 b, .int .i64 m], .int .i64 n] wx fun e w' => e = .returned (.int .i64 V) ∧ VK9 w w2 d s b m (t0, t1, t2, n) w') := hid fun wx h => (CV.out wx h.a).mono fun e w' ⟨he, hb⟩ => ⟨he, h.next hb⟩
  have cQ : Hid (∀ wx, VK9 w w2 d s b m (t0, t1, t2, n) wx → Calls Tryz.prog 14 #[.slice A l.length c, .agg #[.int .i64 d, .int .i64 s, .int .i64 b, .int .i64 m], .int .i64 n] wx fun e w' => e = .returned (.int .i64 V) ∧ VK9 w w2 d s b m (t0, t1, t2, n) w') := hid fun wx h => (CQ.out wx h.a).mono fun e w' ⟨he, hb⟩ => ⟨he, h.next hb⟩
  have cS : Hid (∀ wx, VK9 w w2 d s b m (t0, t1, t2, n) wx → Calls Tryz.prog 15 #[.slice A1 RL.length c1, .slice A2 RL.length c2] wx fun e w' => e = .returned (.bool true) ∧ VK9 w w2 d s b m (t0, t1, t2, n) w') := hid fun wx h =>
    (sameLists_any A1 A2 RL RL c1 c2 _ _ wx (hi1'.kept (fun k hk => h.b.block k hk)) (hi2'.kept (fun k hk => h.b.block k hk)) (by omega)).mono fun e w' ⟨he, q, hw⟩ => ⟨by rw [he, decide_eq_true rfl], by rw [hw]; exact h.next (S3.below_drewN (Below.refl _ _) q)⟩
  clear CA CV CQ CW CR hi1 hi2 hi1' hi2' hl1 hl2 hm1 hm2 hr2 HR1 HK1 hb2 g0 g1 g2 g3 hL1 hL2 e1 e2 hkz
  go_wp2
  go_loopw [12] (fun iv wr => ∃ i : Nat, iv = .int .i64 (i : Int) ∧ i ≤ l.length ∧ Hid (VK9 w w2 d s b m (t0, t1, t2, n) wr)) (fun iv _ => l.length - (RowKit.intOf iv).toNat)
  case atStart => exact ⟨0, rfl, Nat.zero_le _, HKZ⟩
  case round =>
    obtain ⟨i, rfl, hi, hK⟩ := hrel
    clear HKZ
    by_cases hlt : i < l.length
    · have hltz : (i : Int) < (l.length : Int) := by omega
      have dk : decide (l.length ≤ i) = false := decide_eq_false (by omega)
      obtain ⟨fb, fo, q, rfl, hfb, hri, y0, y1⟩ := (HH.out.below hK.out.a).at_ hlt
      have cF := fun W (hb : Below w.heap.size w W) => free_any l[i] q (t0, t1, t2, n) ht W (((hri.kept (fun k hk => (hb.block k hk).trans (hK.out.a.block k hk).symm))).mono (fun k hk => Nat.lt_of_lt_of_le hk hb.size))
      have cG := fun W (hb : Below w.heap.size w W) => rfree_any l[i] q (t0, t1, t2, n) ht W (((hri.kept (fun k hk => (hb.block k hk).trans (hK.out.a.block k hk).symm))).mono (fun k hk => Nat.lt_of_lt_of_le hk hb.size))
      unfold Says lectV timeV at cF cG
      obtain ⟨F, hF⟩ : ∃ F, clearM l[i].2 (t0, t1, t2, n) = F := ⟨_, rfl⟩
      rw [hF] at cF cG
      dsimp only at cF cG
      obtain ⟨X, hX⟩ : ∃ X, ba l[i].1 = X := ⟨_, rfl⟩
      obtain ⟨T, hT⟩ : ∃ T, l[i].2.length = T := ⟨_, rfl⟩
      rw [hX] at y0 cF cG
      rw [hT] at y1 cF cG
      have hk' : VR9 w w2 d s b m (t0, t1, t2, n) fb (fo + i * 2) (.string X) (.slice q.1 T q.2) wr := ⟨hK.out, y0, y1, hfb⟩
      have CF : Hid (∀ wx, VR9 w w2 d s b m (t0, t1, t2, n) fb (fo + i * 2) (.string X) (.slice q.1 T q.2) wx → Calls Tryz.prog 10 #[.agg #[.string X, .slice q.1 T q.2], .agg #[.int .i64 t0, .int .i64 t1, .int .i64 t2, .int .i64 n]] wx fun e w' => e = .returned (.bool F) ∧ VR9 w w2 d s b m (t0, t1, t2, n) fb (fo + i * 2) (.string X) (.slice q.1 T q.2) w') := hid fun wx h => (cF wx h.v.a).mono fun e w' ⟨he, hb⟩ => ⟨he, h.next hb⟩
      have CG : Hid (∀ wx, VR9 w w2 d s b m (t0, t1, t2, n) fb (fo + i * 2) (.string X) (.slice q.1 T q.2) wx → Calls Tryz.prog 11 #[.agg #[.string X, .slice q.1 T q.2], .agg #[.int .i64 t0, .int .i64 t1, .int .i64 t2, .int .i64 n]] wx fun e w' => e = .returned (.bool F) ∧ VR9 w w2 d s b m (t0, t1, t2, n) fb (fo + i * 2) (.string X) (.slice q.1 T q.2) w') := hid fun wx h => (cG wx h.v.a).mono fun e w' ⟨he, hb⟩ => ⟨he, h.next hb⟩
      clear cF cG hF hX hT hri y0 y1 hK
      obtain ⟨k0, k1, k2, k3, _⟩ := id hk'.v.t
      cases F with
      | true =>
        go_upto_region 7 with fail
        go_region_held3 (fun w' => w'.cell? ⟨fb, fo + i * 2, none⟩ = some (.string X) ∧ w'.cell? ⟨fb, fo + i * 2 + 1, none⟩ = some (.slice q.1 T q.2) ∧ w'.cell? ⟨w.heap.size + 1, 0, none⟩ = some (.int .i64 t0) ∧ w'.cell? ⟨w.heap.size + 1, 1, none⟩ = some (.int .i64 t1) ∧ w'.cell? ⟨w.heap.size + 1, 2, none⟩ = some (.int .i64 t2) ∧ w'.cell? ⟨w.heap.size + 1, 3, none⟩ = some (.int .i64 n))
          (first | exact ⟨hk'.c0, hk'.c1, hk'.v.t.c0, hk'.v.t.c1, hk'.v.t.c2, hk'.v.t.c3⟩ | exact ⟨(hk'.next (Below.refl _ _).drew).c0, (hk'.next (Below.refl _ _).drew).c1, (hk'.next (Below.refl _ _).drew).v.t.c0, (hk'.next (Below.refl _ _).drew).v.t.c1, (hk'.next (Below.refl _ _).drew).v.t.c2, (hk'.next (Below.refl _ _).drew).v.t.c3⟩)
          (first
            | (go_at_call 10; refine (CF.out _ (hk'.next (Below.refl _ _).drew)).mono ?_; rintro e w' ⟨rfl, hk'⟩)
            | (go_at_call 10; refine (CF.out _ hk').mono ?_; rintro e w' ⟨rfl, hk'⟩)
            | (go_at_call 11; refine (CG.out _ (hk'.next (Below.refl _ _).drew)).mono ?_; rintro e w' ⟨rfl, hk'⟩)
            | (go_at_call 11; refine (CG.out _ hk').mono ?_; rintro e w' ⟨rfl, hk'⟩))
        all_goals
          have HV := hid hk'.v
          clear hk'
          go_wp2
          go_roundw
          case rel => exact ⟨i + 1, by go_num, by omega, HV⟩
          case measure => simp [RowKit.intOf]; omega
      | false =>
        go_upto_region 7 with fail
        go_region_held3 (fun w' => w'.cell? ⟨fb, fo + i * 2, none⟩ = some (.string X) ∧ w'.cell? ⟨fb, fo + i * 2 + 1, none⟩ = some (.slice q.1 T q.2) ∧ w'.cell? ⟨w.heap.size + 1, 0, none⟩ = some (.int .i64 t0) ∧ w'.cell? ⟨w.heap.size + 1, 1, none⟩ = some (.int .i64 t1) ∧ w'.cell? ⟨w.heap.size + 1, 2, none⟩ = some (.int .i64 t2) ∧ w'.cell? ⟨w.heap.size + 1, 3, none⟩ = some (.int .i64 n))
          (first | exact ⟨hk'.c0, hk'.c1, hk'.v.t.c0, hk'.v.t.c1, hk'.v.t.c2, hk'.v.t.c3⟩ | exact ⟨(hk'.next (Below.refl _ _).drew).c0, (hk'.next (Below.refl _ _).drew).c1, (hk'.next (Below.refl _ _).drew).v.t.c0, (hk'.next (Below.refl _ _).drew).v.t.c1, (hk'.next (Below.refl _ _).drew).v.t.c2, (hk'.next (Below.refl _ _).drew).v.t.c3⟩)
          (first
            | (go_at_call 10; refine (CF.out _ (hk'.next (Below.refl _ _).drew)).mono ?_; rintro e w' ⟨rfl, hk'⟩)
            | (go_at_call 10; refine (CF.out _ hk').mono ?_; rintro e w' ⟨rfl, hk'⟩)
            | (go_at_call 11; refine (CG.out _ (hk'.next (Below.refl _ _).drew)).mono ?_; rintro e w' ⟨rfl, hk'⟩)
            | (go_at_call 11; refine (CG.out _ hk').mono ?_; rintro e w' ⟨rfl, hk'⟩))
        all_goals
          have HV := hid hk'.v
          clear hk'
          go_wp2
          go_roundw
          case rel => exact ⟨i + 1, by go_num, by omega, HV⟩
          case measure => simp [RowKit.intOf]; omega
    · have hltz : ¬ (i : Int) < (l.length : Int) := by omega
      have hk' := hK.out
      clear hK
      obtain ⟨g0, g1, g2, g3, _⟩ := id hk'.g
      go_wp2_with fail
      go_region_held3 (fun w' => w'.cell? ⟨w.heap.size, 0, none⟩ = some (.int .i64 d) ∧ w'.cell? ⟨w.heap.size, 1, none⟩ = some (.int .i64 s) ∧ w'.cell? ⟨w.heap.size, 2, none⟩ = some (.int .i64 b) ∧ w'.cell? ⟨w.heap.size, 3, none⟩ = some (.int .i64 m))
        (first | exact ⟨hk'.g.c0, hk'.g.c1, hk'.g.c2, hk'.g.c3⟩ | exact ⟨(hk'.next (Below.refl _ _).drew).g.c0, (hk'.next (Below.refl _ _).drew).g.c1, (hk'.next (Below.refl _ _).drew).g.c2, (hk'.next (Below.refl _ _).drew).g.c3⟩)
        (first
          | (go_at_call 12; refine (cA.out _ (hk'.next (Below.refl _ _).drew)).mono ?_; rintro e w' ⟨rfl, hk'⟩)
          | (go_at_call 12; refine (cA.out _ hk').mono ?_; rintro e w' ⟨rfl, hk'⟩)
          | (go_at_call 13; refine (cV.out _ hk').mono ?_; rintro e w' ⟨rfl, hk'⟩)
          | (go_at_call 14; refine (cQ.out _ hk').mono ?_; rintro e w' ⟨rfl, hk'⟩)
          | (go_at_call 15; refine (cS.out _ hk').mono ?_; rintro e w' ⟨rfl, hk'⟩))
      all_goals
        go_wp2_with fail
        go_ret
        exact ⟨rfl, hk'.a⟩
end Go.Proofs.YtnpfmoalgphkcaaGreatDoor

set_option linter.unusedVariables false
namespace Go.Proofs.YtnpfmoalgphkcaaGreatDoor.S9
open Go Go.Proofs Go.RowKit Go.Lib Go.Proofs.YtnpfmoalgphkcaaGreatDoor

def setF (d s b m n : Int) (i : Nat) (x : Str) (r : LectD) : LectD × Int :=
  match i with
  | 0 => if S3.validC x = true then ((x, r.2), 0) else (([], r.2), 10)
  | 1 => ((r.1, (timesM d s b m n x).1), (timesM d s b m n x).2)
  | _ => (r, 0)
def zeroR : LectD := ([], [])
def efold (d s b m n : Int) : List FieldD → Nat → LectD → LectD × Int × Int
  | [], _, r => (r, 0, 0)
  | f :: fs, i, r => if (setF d s b m n i f.1 r).2 ≠ 0 then ((setF d s b m n i f.1 r).1, f.2.1, (setF d s b m n i f.1 r).2) else efold d s b m n fs (i + 1) (setF d s b m n i f.1 r).1
/-- A room out of the fields of a record; the column of the field in question; the error. -/
def entryM (d s b m n : Int) (fs : List FieldD) : LectD × Int × Int := if fs.length ≠ 2 then (zeroR, 0, 9) else efold d s b m n fs 0 zeroR
theorem efold_step (d s b m n : Int) (fs : List FieldD) (i : Nat) (h : i < fs.length) (r : LectD) :
    efold d s b m n (fs.drop i) i r = if (setF d s b m n i fs[i].1 r).2 ≠ 0 then ((setF d s b m n i fs[i].1 r).1, fs[i].2.1, (setF d s b m n i fs[i].1 r).2) else efold d s b m n (fs.drop (i + 1)) (i + 1) (setF d s b m n i fs[i].1 r).1 := by
  rw [List.drop_eq_getElem_cons h, efold]
def addC (l : List LectD) (c : Str) : Int := if c ∈ codesL l then 11 else if l.length = 32 then 2 else 0
/-- One record more. -/
def recM (d s b m n : Int) (st : List LectD × List ProbD) (x : RecD) : List LectD × List ProbD :=
  if (entryM d s b m n x.2).2.2 ≠ 0 then (st.1, st.2 ++ [(x.1, (entryM d s b m n x.2).2.1, (entryM d s b m n x.2).2.2)])
  else if addC st.1 (entryM d s b m n x.2).1.1 ≠ 0 then (st.1, st.2 ++ [(x.1, (entryM d s b m n x.2).2.1, addC st.1 (entryM d s b m n x.2).1.1)])
  else (st.1 ++ [(entryM d s b m n x.2).1], st.2)
def recsM (d s b m n : Int) (l : List RecD) : List LectD × List ProbD := l.foldl (recM d s b m n) ([], [])
def readM (d s b m n : Int) (l : List RecD) : List LectD × List ProbD := if frameB d s b m n = true then recsM d s b m n l else ([], [(0, 0, 1)])
theorem recsM_take (d s b m n : Int) (l : List RecD) (i : Nat) (h : i < l.length) : recsM d s b m n (l.take (i + 1)) = recM d s b m n (recsM d s b m n (l.take i)) l[i] := by
  unfold recsM
  rw [List.take_succ_eq_append_getElem h, List.foldl_append]
  rfl
theorem recM_room_len (d s b m n : Int) (st : List LectD × List ProbD) (x : RecD) (h : st.1.length ≤ 32) : (recM d s b m n st x).1.length ≤ 32 := by
  unfold recM
  split
  · exact h
  · split
    · exact h
    · rename_i h2
      unfold addC at h2
      by_cases h3 : (entryM d s b m n x.2).1.1 ∈ codesL st.1
      · rw [if_pos h3] at h2; simp at h2
      · rw [if_neg h3] at h2
        by_cases h4 : st.1.length = 32
        · rw [if_pos h4] at h2; simp at h2
        · simp; omega
theorem recsM_len (d s b m n : Int) (l : List RecD) : (recsM d s b m n l).1.length ≤ 32 := by
  unfold recsM
  have : ∀ (l : List RecD) (st : List LectD × List ProbD), st.1.length ≤ 32 → (l.foldl (recM d s b m n) st).1.length ≤ 32 := by
    intro l
    induction l with
    | nil => exact fun st h => h
    | cons x r ih => exact fun st h => ih _ (recM_room_len d s b m n st x h)
  exact this l _ (by simp)
theorem recsM_probs (d s b m n : Int) (l : List RecD) : (recsM d s b m n l).2.length ≤ l.length := by
  unfold recsM
  have : ∀ (l : List RecD) (st : List LectD × List ProbD), (l.foldl (recM d s b m n) st).2.length ≤ st.2.length + l.length := by
    intro l
    induction l with
    | nil => exact fun st => Nat.le_refl _
    | cons x r ih =>
      intro st
      rw [List.foldl_cons]
      refine Nat.le_trans (ih _) ?_
      have : (recM d s b m n st x).2.length ≤ st.2.length + 1 := by
        unfold recM
        split
        · simp
        · split <;> simp
      simp
      omega
  simpa using this l ([], [])
/-- The codes of the rooms that were read, in the map's words. -/
theorem addM_codes (l : List LectD) (c : Str) : (addK 32 (codesL l) c).2 = addC l c ∧ (addK 32 (codesL l) c).1 = if addC l c = 0 then codesL l ++ [c] else codesL l := by
  unfold addK addC
  have e : (codesL l).length = l.length := by simp [codesL]
  rw [e]
  by_cases h : c ∈ codesL l
  · rw [if_pos h, if_pos h]; simp
  · rw [if_neg h, if_neg h]
    by_cases h2 : l.length = 32
    · rw [if_pos h2, if_pos h2]; simp
    · rw [if_neg h2, if_neg h2]; simp
end Go.Proofs.YtnpfmoalgphkcaaGreatDoor.S9

set_option linter.unusedVariables false
namespace Go.Proofs.YtnpfmoalgphkcaaGreatDoor.S9
open Go Go.Proofs Go.RowKit Go.Lib Go.Proofs.YtnpfmoalgphkcaaGreatDoor

/-- What a call that reads field i of the lecturer in block R leaves behind. -/
def FieldOut (d s b m n : Int) (i : Nat) (x : Str) (r : LectD) (R : Nat) (w : World) (e : Ending) (w' : World) : Prop :=
  e = .returned (.int .i64 (setF d s b m n i x r).2) ∧ (∃ q : LectA, Box2 w' R (.string (ba (setF d s b m n i x r).1.1)) (.slice q.1 (setF d s b m n i x r).1.2.length q.2) ∧ LectIn w' (fun k => R < k ∧ k < w'.heap.size) (setF d s b m n i x r).1 q) ∧ w.grownBy w' (some R)
/-- What a call that reads an entry leaves behind. -/
def EntryOut (o : LectD × Int × Int) (w : World) (e : Ending) (w' : World) : Prop :=
  (∃ q, e = .returned (.tuple #[lectV o.1 q, .int .i64 o.2.1, .int .i64 o.2.2]) ∧ LectIn w' (fun k => w.heap.size ≤ k ∧ k < w'.heap.size) o.1 q) ∧ Below w.heap.size w w'
theorem load2 {w : World} {k : Nat} {v0 v1 : Value} (h : w.cell? ⟨k, 0, none⟩ = some v0 ∧ w.cell? ⟨k, 1, none⟩ = some v1) : (loadVar 34 ⟨k, 0, none⟩).run Tryz.prog w = .ok (.agg #[v0, v1]) w := by
  obtain ⟨h0, h1⟩ := h
  simp [loadVar, go_sem, h0, h1]
theorem Box2.set {w : World} {B : Nat} {v0 v1 : Value} (h : Box2 w B v0 v1) : ∀ (u0 u1 : Value), Box2 ((w.setCell ⟨B, 0, none⟩ u0).setCell ⟨B, 1, none⟩ u1) B u0 u1 := fun u0 u1 => by
  have h1 := heap_setCell_same w B 0 _ _ u0 h.h
  have h2 := heap_setCell_same _ B 1 _ _ u1 h1
  refine ⟨?_⟩
  rw [h2]
  rfl
theorem set2_grown (w : World) (B : Nat) (u0 u1 : Value) : w.grownBy ((w.setCell ⟨B, 0, none⟩ u0).setCell ⟨B, 1, none⟩ u1) (some B) := by
  have g : ∀ (w : World) (o : Nat) (v : Value), w.grownBy (w.setCell ⟨B, o, none⟩ v) (some B) := fun w o v => ⟨by simp [World.setCell], by simp [World.setCell], by simp [World.setCell], by simp [World.setCell], fun k _ hk => Below.heap_setCell w ⟨B, o, none⟩ v k (fun e => hk (by rw [show k = B from e]))⟩
  exact (g w 0 u0).andThen (g _ 1 u1) (fun j hj => .inr hj)
/-- All results stored. -/
theorem entry_end {w W : World} {a : Act} {r : LectD} {q : LectA} {c e : Int} {o : LectD × Int × Int} (hp : a.tmps.getD 6 undef = .pointer (some ⟨w.heap.size, 0, none⟩)) (hc : a.tmps.getD 7 undef = .int .i64 c) (he : a.tmps.getD 8 undef = .int .i64 e) (hd : a.defers = [])
    (hx : Box2 W w.heap.size (.string (ba r.1)) (.slice q.1 r.2.length q.2)) (hr : LectIn W (fun k => w.heap.size < k ∧ k < W.heap.size) r q) (hb : Below w.heap.size w W) (ho : o = (r, c, e)) :
    bodyPost Tryz.prog Tryz.f73 (EntryOut o w) Exit.ret a W := by
  subst ho
  refine bodyPost_ret (v := .tuple #[lectV r q, .int .i64 c, .int .i64 e]) (results_ctt rfl _ _ _ ⟨w.heap.size, 0, none⟩ _ _ _ hp hc he ?_) hd ⟨⟨q, rfl, hr.mono (fun k hk => ⟨Nat.le_of_lt hk.1, hk.2⟩)⟩, hb⟩
  unfold lectV
  exact load2 hx.cells
theorem Box2.put0 {w : World} {B : Nat} {v0 v1 : Value} (h : Box2 w B v0 v1) (u : Value) : Box2 (w.setCell ⟨B, 0, none⟩ u) B u v1 := ⟨by rw [heap_setCell_same w B 0 _ _ u h.h]; rfl⟩
theorem Box2.put1 {w : World} {B : Nat} {v0 v1 : Value} (h : Box2 w B v0 v1) (u : Value) : Box2 (w.setCell ⟨B, 1, none⟩ u) B v0 u := ⟨by rw [heap_setCell_same w B 1 _ _ u h.h]; rfl⟩
theorem two_put {w W : World} {r : LectD} {q : LectA} (hx : Box2 W w.heap.size (.string (ba r.1)) (.slice q.1 r.2.length q.2)) (hr : LectIn W (fun k => w.heap.size < k ∧ k < W.heap.size) r q) (hb : Below w.heap.size w W) {W5 : World}
    (h5 : W5 = (W.setCell ⟨w.heap.size, 0, none⟩ (.string (ba r.1))).setCell ⟨w.heap.size, 1, none⟩ (.slice q.1 r.2.length q.2)) :
    Box2 W5 w.heap.size (.string (ba r.1)) (.slice q.1 r.2.length q.2) ∧ LectIn W5 (fun k => w.heap.size < k ∧ k < W5.heap.size) r q ∧ Below w.heap.size w W5 := by
  have hx5 := Box2.set hx (.string (ba r.1)) (.slice q.1 r.2.length q.2)
  have hg := set2_grown W w.heap.size (.string (ba r.1)) (.slice q.1 r.2.length q.2)
  rw [← h5] at hx5 hg
  have hs := hg.size
  have hl := hx.lt
  exact ⟨hx5, (hr.kept (fun k hk => hg.block k hk.2 (fun e => by injection e; omega))).mono (fun k hk => ⟨hk.1, by omega⟩), hb.grown hg (by omega) (fun k e => by injection e; omega)⟩
theorem LectIn.past {W w2 : World} {R j : Nat} {v : Value} {r : LectD} {q : LectA} (h : LectIn W (fun k => R < k ∧ k < W.heap.size) r q) (hb : Below W.heap.size W w2) : LectIn (w2.setCell ⟨R, j, none⟩ v) (fun k => R < k ∧ k < (w2.setCell ⟨R, j, none⟩ v).heap.size) r q := by
  have hg := put_grown hb R j v
  have hs := hg.size
  exact (h.kept (fun k hk => hg.block k hk.2 (fun e => by injection e; omega))).mono (fun k hk => ⟨hk.1, by omega⟩)
end Go.Proofs.YtnpfmoalgphkcaaGreatDoor.S9

