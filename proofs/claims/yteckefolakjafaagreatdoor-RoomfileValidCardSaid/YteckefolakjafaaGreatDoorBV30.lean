/-
  The records of rooms by the specification: Write. Conditions: the rooms lie in memory; the variables hold what their text lays.
  The walk of RoomfileValid, given that the sanity check holds. Conditions: the rooms lie in memory; the variables hold what their text lays.
-/
import Derived.Test.YteckefolakjafaaGreatDoorBV26
import Derived.Test.YteckefolakjafaaGreatDoorBV22
import Derived.Test.YteckefolakjafaaGreatDoorBV27
import Derived.Test.YteckefolakjafaaGreatDoorBV29
import Derived.Deep.AppendLies
import Derived.Deep.RegionHeld3
set_option linter.unusedVariables false
namespace Go.Proofs.YteckefolakjafaaGreatDoor
open Go Go.Proofs Go.RowKit Go.Lib

/-- The grid's box and a room of the list. -/
structure WK (w0 : World) (d s b m : Int) (fb o : Nat) (v0 v1 v2 v3 v4 : Value) (w : World) : Prop where
  g : K1 w0 d s b m w
  c : Cells5 w fb o v0 v1 v2 v3 v4
  z : fb < w0.heap.size
theorem WK.next {w0 w w' : World} {d s b m : Int} {fb o : Nat} {v0 v1 v2 v3 v4 : Value} (h : WK w0 d s b m fb o v0 v1 v2 v3 v4 w) (q : Below w.heap.size w w') : WK w0 d s b m fb o v0 v1 v2 v3 v4 w' :=
  ⟨h.g.next q, h.c.below q (Nat.lt_of_lt_of_le h.z h.g.b.size), h.z⟩
theorem WK.drew {w0 w : World} {d s b m : Int} {fb o : Nat} {v0 v1 v2 v3 v4 : Value} (h : WK w0 d s b m fb o v0 v1 v2 v3 v4 w) : WK w0 d s b m fb o v0 v1 v2 v3 v4 w.drew := h.next (Below.refl _ w).drew
theorem K1.grown {w0 w w' : World} {d s b m : Int} {row : Option Nat} (h : K1 w0 d s b m w) (hg : w.grownBy w' row) (hr : ∀ k, row = some k → w0.heap.size + 1 ≤ k) : K1 w0 d s b m w' := by
  have hx := h.x
  have kc : ∀ o : Nat, w'.cell? ⟨w0.heap.size, o, none⟩ = w.cell? ⟨w0.heap.size, o, none⟩ := fun o => World.cell?_of_block (w := w) (hg.block _ hx.lt (fun e => by have e2 : w0.heap.size + 1 ≤ w0.heap.size := hr _ e.symm; omega))
  exact ⟨⟨(kc 0).trans hx.c0, (kc 1).trans hx.c1, (kc 2).trans hx.c2, (kc 3).trans hx.c3, Nat.lt_of_lt_of_le hx.lt hg.size⟩, h.b.trans (((Below.refl _ w).grown hg h.b.size (fun k e => by have := hr k e; omega)))⟩
theorem WK.grown {w0 w w' : World} {d s b m : Int} {fb o : Nat} {v0 v1 v2 v3 v4 : Value} {row : Option Nat} (h : WK w0 d s b m fb o v0 v1 v2 v3 v4 w) (hg : w.grownBy w' row) (hr : ∀ k, row = some k → w0.heap.size + 1 ≤ k) : WK w0 d s b m fb o v0 v1 v2 v3 v4 w' :=
  ⟨h.g.grown hg hr, h.c.kept (hg.block _ (Nat.lt_of_lt_of_le h.z h.g.b.size) (fun e => by have := hr _ e.symm; have := h.z; omega)), h.z⟩

set_option maxHeartbeats 16000000 in
set_option maxRecDepth 100000 in
theorem rwrite_any (d s b m n : Int) (A : Option Addr) (l : List RoomD) (c : Nat) (w : World) (h : RoomsIn w (fun k => k < w.heap.size) A l) (hE : REnv7 w) :
    Calls Tryz.prog 6 #[.slice A l.length c, .agg #[.int .i64 d, .int .i64 s, .int .i64 b, .int .i64 m], .int .i64 n] w (WriteOut (writeR d s b m n l) w) := by
  obtain ⟨iS, hiS, hzS, hsS, hbS⟩ := info_parts infoStrs7
  unfold WriteOut writeR
  have hk := K1.first w d s b m 24
  have HK := hid hk
  have HH := hid (fun (w' : World) (hb : Below w.heap.size w w') => h.below hb)
  have HE := hid (fun (w' : World) (hb : Below w.heap.size w w') => hE.below hb (Nat.le_refl _))
  have cV : Hid (∀ w', Below w.heap.size w w' → Calls Tryz.prog 9 #[.slice A l.length c, .agg #[.int .i64 d, .int .i64 s, .int .i64 b, .int .i64 m], .int .i64 n] w' (Says (.int .i64 (validR d s b m n l)) w')) :=
    hid (fun w' hb => rrvalid_any d s b m n A l c w' ((h.below hb).mono (fun k hk => Nat.lt_of_lt_of_le hk hb.size)))
  have cV' := cV.out
  unfold Says at cV'
  obtain ⟨R, hR⟩ : ∃ R, validR d s b m n l = R := ⟨_, rfl⟩
  rw [hR] at cV' ⊢
  have CV := hid cV'
  clear hk h hE cV cV'
  by_cases hR0 : R = 0
  · subst hR0
    obtain ⟨h16, hok⟩ := validR_ok hR
    have HOK := hid hok
    rw [if_neg (by simp)]
    clear hR hok
    go_enter Tryz.func6, Tryz.ntmps6
    go_wp2_with fail
    refine (CV.out _ HK.out.b).mono ?_
    rintro e w1 ⟨rfl, hb⟩
    have HK1 := hid (HK.out.next hb)
    clear hb HK CV
    go_wp2
    go_loopw [9, 10, 11, 12] (fun v iv _ _ wr => ∃ (i : Nat) (L : List RowA), iv = .int .i64 (i : Int) ∧ i ≤ l.length ∧ Hid (L.map (·.1) = (l.take i).map (rowR d s b m n)) ∧ Hid (RowsRow wr (w.heap.size + 1) v L) ∧ Hid (K1 w d s b m wr)) (fun _ iv _ _ _ => l.length - (RowKit.intOf iv).toNat)
    case atStart => exact ⟨0, [], rfl, Nat.zero_le _, hid rfl, hid (RowsRow.nil _ _), hid HK1.out⟩
    case round =>
      obtain ⟨i, L, rfl, hi, hL, hrow, hKK⟩ := hrel
      obtain ⟨Ar, cr, hvr, _⟩ := hrow.out.rowsIn
      subst hvr
      have hLl : L.length = i := by
        have := congrArg List.length hL.out
        rw [List.length_map, List.length_map, List.length_take] at this
        omega
      have HLL := hid hLl
      clear hLl
      by_cases hlt : i < l.length
      · have hltz : (i : Int) < (l.length : Int) := by omega
        have di : decide (l.length ≤ i) = false := decide_eq_false (by omega)
        obtain ⟨fb, fo, ⟨A1, c1, A2, c2⟩, rfl, hfb, hri, hcell⟩ := (HH.out _ hKK.out.b).at_ hlt
        have hroom := HOK.out _ (List.getElem_mem hlt)
        have hst : (l.take (i + 1)).map (rowR d s b m n) = L.map (·.1) ++ [rowR d s b m n l[i]] := by rw [hL.out, List.take_succ_eq_append_getElem hlt, List.map_append]; rfl
        obtain ⟨⟨hs1, hs2⟩, hn1, hn2⟩ := roomM_ok hroom
        obtain ⟨⟨code, bld, seats, fs, ts⟩, hr⟩ : ∃ r, l[i] = r := ⟨_, rfl⟩
        rw [hr] at hcell hst hri hs1 hs2 hn1 hn2
        obtain ⟨hf, ht, hf1, hf2, ht1, ht2⟩ := hri
        dsimp only at hcell hf ht hf1 hf2 ht1 ht2 hs1 hs2 hn1 hn2
        change (l.take (i + 1)).map (rowR d s b m n) = L.map (·.1) ++ [[code, bld, decDigits seats.toNat, joinT fs, timesS d s b m n ts]] at hst
        have hk0 : WK w d s b m fb (fo + i * 5) (.string (ba code)) (.string (ba bld)) (.int .i64 seats) (.slice A1 fs.length c1) (.slice A2 ts.length c2) wr := ⟨hKK.out, hcell, hfb⟩
        have cJ : ∀ (w' : World), Below w.heap.size wr w' → Calls Tryz.prog 16 #[.slice A1 fs.length c1] w' (S3.JoinOut fs w') := fun w' hb => S3.rjoin_any A1 fs c1 w' ((S3.StrsIn.below hf hb).mono (fun k hk => Nat.lt_of_lt_of_le (Nat.lt_of_lt_of_le hk hKK.out.b.size) hb.size)) hf1 hf2
        have cI : ∀ (w' : World), Calls Tryz.prog 17 #[.int .i64 seats] w' (Says (.string (ba (decDigits seats.toNat))) w') := fun w' => rdec4_any seats (by omega) hs2 w'
        have cT : ∀ (w' : World), Below w.heap.size wr w' → Calls Tryz.prog 18 #[.slice A2 ts.length c2, .agg #[.int .i64 d, .int .i64 s, .int .i64 b, .int .i64 m], .int .i64 n] w' (Says (.string (ba (timesS d s b m n ts))) w') := fun w' hb => rwriteTimes_any d s b m n A2 ts c2 w.heap.size w' (Nat.le_trans hKK.out.b.size hb.size) (ht.below hb) hn2 (HE.out w' (hKK.out.b.trans hb))
        unfold S3.JoinOut at cJ
        unfold Says at cI cT
        have hj : S3.ba (if S3.checkM fs = 0 then S3.joinM fs else []) = ba (joinT fs) := rfl
        rw [hj] at cJ
        obtain ⟨X1, hX1⟩ : ∃ X, ba code = X := ⟨_, rfl⟩
        obtain ⟨X2, hX2⟩ : ∃ X, ba bld = X := ⟨_, rfl⟩
        obtain ⟨X3, hX3⟩ : ∃ X, ba (decDigits seats.toNat) = X := ⟨_, rfl⟩
        obtain ⟨X4, hX4⟩ : ∃ X, ba (joinT fs) = X := ⟨_, rfl⟩
        obtain ⟨X5, hX5⟩ : ∃ X, ba (timesS d s b m n ts) = X := ⟨_, rfl⟩
        obtain ⟨RW, hRW⟩ : ∃ r, [code, bld, decDigits seats.toNat, joinT fs, timesS d s b m n ts] = r := ⟨_, rfl⟩
        have hrw5 : RW.length = 5 := by rw [← hRW]; rfl
        have hrwv : S3.strVals RW = [.string X1, .string X2, .string X3, .string X4, .string X5] := by rw [← hRW, ← hX1, ← hX2, ← hX3, ← hX4, ← hX5]; rfl
        rw [hRW] at hst
        rw [hX1, hX2] at hk0
        rw [hX3] at cI
        rw [hX4] at cJ
        rw [hX5] at cT
        obtain ⟨F1, hF1⟩ : ∃ F, fs.length = F := ⟨_, rfl⟩
        obtain ⟨T1, hT1⟩ : ∃ F, ts.length = F := ⟨_, rfl⟩
        rw [hF1] at hk0 cJ
        rw [hT1] at hk0 cT
        have HK0 := hid hk0
        obtain ⟨y0, y1, y2, y3, y4⟩ := hk0.c
        have CJ := hid cJ
        have CI := hid cI
        have CT := hid cT
        have HST := hid hst
        have HR5 := hid hrw5
        have HRV := hid hrwv
        clear hr hRW hX1 hX2 hX3 hX4 hX5 hF1 hT1 hst hroom hk0 hcell hf ht hf1 hf2 ht1 ht2 hs1 hs2 hn1 hn2 cJ cI cT hj hrw5 hrwv
        go_wp2_with fail
        refine (CJ.out _ (Below.refl _ _)).mono ?_
        rintro e w2 ⟨rfl, hb2⟩
        have HK2 := hid (HK0.out.next hb2)
        have HB2 := hid hb2
        clear hb2 y0 y1 y2 y3 y4 HK0 CJ
        go_wp2_with fail
        refine wp_region_held_drew (S := WK w d s b m fb (fo + i * 5) (.string X1) (.string X2) (.int .i64 seats) (.slice A1 F1 c1) (.slice A2 T1 c2)) (by kernel_rfl) HK2.out.drew (fun hHeld => ?_)
        (refine wpAnyH_take (i := 0) (oi := _) (v := ?_) rfl (by kernel_rfl) (by kernel_rfl) (by kernel_rfl) (fun _ _ _ h => h) (Or.inl ⟨by rfl, ?_⟩) (by assumption) ?_; rotate_left; (intro wS hSw; obtain ⟨⟨⟨x0, x1, x2, x3, _⟩, _⟩, ⟨y0, y1, y2, y3, y4⟩, _⟩ := hSw; (try simp only [List.getElem_toArray, List.getElem_cons_succ, List.getElem_cons_zero]); go_simp; (try with_reducible rfl)))
        try simp only [List.getElem_toArray, List.getElem_cons_succ, List.getElem_cons_zero, Act.put, List.setIfInBounds_toArray, List.set_cons_zero, List.set_cons_succ]
        (refine wpAnyH_take (i := 1) (oi := _) (v := ?_) rfl (by kernel_rfl) (by kernel_rfl) (by kernel_rfl) (fun _ _ _ h => h) (Or.inl ⟨by rfl, ?_⟩) (by assumption) ?_; rotate_left; (intro wS hSw; obtain ⟨⟨⟨x0, x1, x2, x3, _⟩, _⟩, ⟨y0, y1, y2, y3, y4⟩, _⟩ := hSw; (try simp only [List.getElem_toArray, List.getElem_cons_succ, List.getElem_cons_zero]); go_simp; (try with_reducible rfl)))
        try simp only [List.getElem_toArray, List.getElem_cons_succ, List.getElem_cons_zero, Act.put, List.setIfInBounds_toArray, List.set_cons_zero, List.set_cons_succ]
        (refine wpAnyH_take (i := 2) (oi := _) (v := ?_) rfl (by kernel_rfl) (by kernel_rfl) (by kernel_rfl) (fun _ _ _ h => h) (Or.inl ⟨by rfl, ?_⟩) (by assumption) ?_; rotate_left; (intro wS hSw; obtain ⟨⟨⟨x0, x1, x2, x3, _⟩, _⟩, ⟨y0, y1, y2, y3, y4⟩, _⟩ := hSw; (try simp only [List.getElem_toArray, List.getElem_cons_succ, List.getElem_cons_zero]); go_simp; (try with_reducible rfl)))
        try simp only [List.getElem_toArray, List.getElem_cons_succ, List.getElem_cons_zero, Act.put, List.setIfInBounds_toArray, List.set_cons_zero, List.set_cons_succ]
        (refine wpAnyH_take (i := 3) (oi := _) (v := ?_) rfl (by kernel_rfl) (by kernel_rfl) (by kernel_rfl) (fun _ _ _ h => h) (Or.inl ⟨by rfl, ?_⟩) (by assumption) ?_; rotate_left; (intro wS hSw; obtain ⟨⟨⟨x0, x1, x2, x3, _⟩, _⟩, ⟨y0, y1, y2, y3, y4⟩, _⟩ := hSw; (try simp only [List.getElem_toArray, List.getElem_cons_succ, List.getElem_cons_zero]); go_simp; (try with_reducible rfl)))
        try simp only [List.getElem_toArray, List.getElem_cons_succ, List.getElem_cons_zero, Act.put, List.setIfInBounds_toArray, List.set_cons_zero, List.set_cons_succ]
        (refine wpAnyH_take (i := 4) (oi := _) (v := ?_) rfl (by kernel_rfl) (by kernel_rfl) (by kernel_rfl) (fun _ _ _ h => h) (Or.inl ⟨by rfl, ?_⟩) (by assumption) ?_; rotate_left; (intro wS hSw; obtain ⟨⟨⟨x0, x1, x2, x3, _⟩, _⟩, ⟨y0, y1, y2, y3, y4⟩, _⟩ := hSw; (try simp only [List.getElem_toArray, List.getElem_cons_succ, List.getElem_cons_zero]); go_simp; (try with_reducible rfl)))
        try simp only [List.getElem_toArray, List.getElem_cons_succ, List.getElem_cons_zero, Act.put, List.setIfInBounds_toArray, List.set_cons_zero, List.set_cons_succ]
        (refine wpAnyH_take (i := 5) (oi := _) (v := ?_) rfl (by kernel_rfl) (by kernel_rfl) (by kernel_rfl) (fun _ _ _ h => h) (Or.inl ⟨by rfl, ?_⟩) (by assumption) ?_; rotate_left; (intro wS hSw; obtain ⟨⟨⟨x0, x1, x2, x3, _⟩, _⟩, ⟨y0, y1, y2, y3, y4⟩, _⟩ := hSw; (try simp only [List.getElem_toArray, List.getElem_cons_succ, List.getElem_cons_zero]); go_simp; (try with_reducible rfl)))
        try simp only [List.getElem_toArray, List.getElem_cons_succ, List.getElem_cons_zero, Act.put, List.setIfInBounds_toArray, List.set_cons_zero, List.set_cons_succ]
        (refine wpAnyH_take (i := 6) (oi := _) (v := ?_) rfl (by kernel_rfl) (by kernel_rfl) (by kernel_rfl) (fun _ _ _ h => h) (Or.inl ⟨by rfl, ?_⟩) (by assumption) ?_; rotate_left; (intro wS hSw; obtain ⟨⟨⟨x0, x1, x2, x3, _⟩, _⟩, ⟨y0, y1, y2, y3, y4⟩, _⟩ := hSw; (try simp only [List.getElem_toArray, List.getElem_cons_succ, List.getElem_cons_zero]); go_simp; (try with_reducible rfl)))
        try simp only [List.getElem_toArray, List.getElem_cons_succ, List.getElem_cons_zero, Act.put, List.setIfInBounds_toArray, List.set_cons_zero, List.set_cons_succ]
        (refine wpAnyH_take (i := 7) (oi := _) (v := ?_) rfl (by kernel_rfl) (by kernel_rfl) (by kernel_rfl) (fun _ _ _ h => h) (Or.inl ⟨by rfl, ?_⟩) (by assumption) ?_; rotate_left; (intro wS hSw; obtain ⟨⟨⟨x0, x1, x2, x3, _⟩, _⟩, ⟨y0, y1, y2, y3, y4⟩, _⟩ := hSw; (try simp only [List.getElem_toArray, List.getElem_cons_succ, List.getElem_cons_zero]); go_simp; (try with_reducible rfl)))
        try simp only [List.getElem_toArray, List.getElem_cons_succ, List.getElem_cons_zero, Act.put, List.setIfInBounds_toArray, List.set_cons_zero, List.set_cons_succ]
        (refine wpAnyH_take (i := 8) (oi := _) (v := ?_) rfl (by kernel_rfl) (by kernel_rfl) (by kernel_rfl) (fun _ _ _ h => h) (Or.inl ⟨by rfl, ?_⟩) (by assumption) ?_; rotate_left; (intro wS hSw; obtain ⟨⟨⟨x0, x1, x2, x3, _⟩, _⟩, ⟨y0, y1, y2, y3, y4⟩, _⟩ := hSw; (try simp only [List.getElem_toArray, List.getElem_cons_succ, List.getElem_cons_zero]); go_simp; (try with_reducible rfl)))
        try simp only [List.getElem_toArray, List.getElem_cons_succ, List.getElem_cons_zero, Act.put, List.setIfInBounds_toArray, List.set_cons_zero, List.set_cons_succ]
        (refine wpAnyH_take (i := 9) (oi := _) (v := ?_) rfl (by kernel_rfl) (by kernel_rfl) (by kernel_rfl) (fun _ _ _ h => h) (Or.inl ⟨by rfl, ?_⟩) (by assumption) ?_; rotate_left; (intro wS hSw; obtain ⟨⟨⟨x0, x1, x2, x3, _⟩, _⟩, ⟨y0, y1, y2, y3, y4⟩, _⟩ := hSw; (try simp only [List.getElem_toArray, List.getElem_cons_succ, List.getElem_cons_zero]); go_simp; (try with_reducible rfl)))
        try simp only [List.getElem_toArray, List.getElem_cons_succ, List.getElem_cons_zero, Act.put, List.setIfInBounds_toArray, List.set_cons_zero, List.set_cons_succ]
        (refine wpAnyH_take (i := 10) (oi := _) (v := ?_) rfl (by kernel_rfl) (by kernel_rfl) (by kernel_rfl) (fun _ _ _ h => h) (Or.inl ⟨by rfl, ?_⟩) (by assumption) ?_; rotate_left; (intro wS hSw; obtain ⟨⟨⟨x0, x1, x2, x3, _⟩, _⟩, ⟨y0, y1, y2, y3, y4⟩, _⟩ := hSw; (try simp only [List.getElem_toArray, List.getElem_cons_succ, List.getElem_cons_zero]); go_simp; (try with_reducible rfl)))
        try simp only [List.getElem_toArray, List.getElem_cons_succ, List.getElem_cons_zero, Act.put, List.setIfInBounds_toArray, List.set_cons_zero, List.set_cons_succ]
        (refine wpAnyH_take (i := 11) (oi := _) (v := ?_) rfl (by kernel_rfl) (by kernel_rfl) (by kernel_rfl) (fun _ _ _ h => h) (Or.inl ⟨by rfl, ?_⟩) (by assumption) ?_; rotate_left; (intro wS hSw; obtain ⟨⟨⟨x0, x1, x2, x3, _⟩, _⟩, ⟨y0, y1, y2, y3, y4⟩, _⟩ := hSw; (try simp only [List.getElem_toArray, List.getElem_cons_succ, List.getElem_cons_zero]); go_simp; (try with_reducible rfl)))
        try simp only [List.getElem_toArray, List.getElem_cons_succ, List.getElem_cons_zero, Act.put, List.setIfInBounds_toArray, List.set_cons_zero, List.set_cons_succ]
        (refine wpAnyH_take (i := 12) (oi := _) (v := ?_) rfl (by kernel_rfl) (by kernel_rfl) (by kernel_rfl) (fun _ _ _ h => h) (Or.inl ⟨by rfl, ?_⟩) (by assumption) ?_; rotate_left; (intro wS hSw; obtain ⟨⟨⟨x0, x1, x2, x3, _⟩, _⟩, ⟨y0, y1, y2, y3, y4⟩, _⟩ := hSw; (try simp only [List.getElem_toArray, List.getElem_cons_succ, List.getElem_cons_zero]); go_simp; (try with_reducible rfl)))
        try simp only [List.getElem_toArray, List.getElem_cons_succ, List.getElem_cons_zero, Act.put, List.setIfInBounds_toArray, List.set_cons_zero, List.set_cons_succ]
        (refine wpAnyH_take (i := 13) (oi := _) (v := ?_) rfl (by kernel_rfl) (by kernel_rfl) (by kernel_rfl) (fun _ _ _ h => h) (Or.inl ⟨by rfl, ?_⟩) (by assumption) ?_; rotate_left; (intro wS hSw; obtain ⟨⟨⟨x0, x1, x2, x3, _⟩, _⟩, ⟨y0, y1, y2, y3, y4⟩, _⟩ := hSw; (try simp only [List.getElem_toArray, List.getElem_cons_succ, List.getElem_cons_zero]); go_simp; (try with_reducible rfl)))
        try simp only [List.getElem_toArray, List.getElem_cons_succ, List.getElem_cons_zero, Act.put, List.setIfInBounds_toArray, List.set_cons_zero, List.set_cons_succ]
        (refine wpAnyH_take (i := 14) (oi := _) (v := ?_) rfl (by kernel_rfl) (by kernel_rfl) (by kernel_rfl) (fun _ _ _ h => h) (Or.inl ⟨by rfl, ?_⟩) (by assumption) ?_; rotate_left; (intro wS hSw; obtain ⟨⟨⟨x0, x1, x2, x3, _⟩, _⟩, ⟨y0, y1, y2, y3, y4⟩, _⟩ := hSw; (try simp only [List.getElem_toArray, List.getElem_cons_succ, List.getElem_cons_zero]); go_simp; (try with_reducible rfl)))
        try simp only [List.getElem_toArray, List.getElem_cons_succ, List.getElem_cons_zero, Act.put, List.setIfInBounds_toArray, List.set_cons_zero, List.set_cons_succ]
        (refine wpAnyH_take (i := 15) (oi := _) (v := ?_) rfl (by kernel_rfl) (by kernel_rfl) (by kernel_rfl) (fun _ _ _ h => h) (Or.inl ⟨by rfl, ?_⟩) (by assumption) ?_; rotate_left; (intro wS hSw; obtain ⟨⟨⟨x0, x1, x2, x3, _⟩, _⟩, ⟨y0, y1, y2, y3, y4⟩, _⟩ := hSw; (try simp only [List.getElem_toArray, List.getElem_cons_succ, List.getElem_cons_zero]); go_simp; (try with_reducible rfl)))
        try simp only [List.getElem_toArray, List.getElem_cons_succ, List.getElem_cons_zero, Act.put, List.setIfInBounds_toArray, List.set_cons_zero, List.set_cons_succ]
        (refine wpAnyH_take (i := 17) (oi := _) (v := ?_) rfl (by kernel_rfl) (by kernel_rfl) (by kernel_rfl) (fun _ _ _ h => h) (Or.inl ⟨by rfl, ?_⟩) (by assumption) ?_; rotate_left; (intro wS hSw; obtain ⟨⟨⟨x0, x1, x2, x3, _⟩, _⟩, ⟨y0, y1, y2, y3, y4⟩, _⟩ := hSw; (try simp only [List.getElem_toArray, List.getElem_cons_succ, List.getElem_cons_zero]); go_simp; (try with_reducible rfl)))
        try simp only [List.getElem_toArray, List.getElem_cons_succ, List.getElem_cons_zero, Act.put, List.setIfInBounds_toArray, List.set_cons_zero, List.set_cons_succ]
        (refine wpAnyH_take (i := 18) (oi := _) (v := ?_) rfl (by kernel_rfl) (by kernel_rfl) (by kernel_rfl) (fun _ _ _ h => h) (Or.inl ⟨by rfl, ?_⟩) (by assumption) ?_; rotate_left; (intro wS hSw; obtain ⟨⟨⟨x0, x1, x2, x3, _⟩, _⟩, ⟨y0, y1, y2, y3, y4⟩, _⟩ := hSw; (try simp only [List.getElem_toArray, List.getElem_cons_succ, List.getElem_cons_zero]); go_simp; (try with_reducible rfl)))
        try simp only [List.getElem_toArray, List.getElem_cons_succ, List.getElem_cons_zero, Act.put, List.setIfInBounds_toArray, List.set_cons_zero, List.set_cons_succ]
        (refine wpAnyH_take (i := 19) (oi := _) (v := ?_) rfl (by kernel_rfl) (by kernel_rfl) (by kernel_rfl) (fun _ _ _ h => h) (Or.inl ⟨by rfl, ?_⟩) (by assumption) ?_; rotate_left; (intro wS hSw; obtain ⟨⟨⟨x0, x1, x2, x3, _⟩, _⟩, ⟨y0, y1, y2, y3, y4⟩, _⟩ := hSw; (try simp only [List.getElem_toArray, List.getElem_cons_succ, List.getElem_cons_zero]); go_simp; (try with_reducible rfl)))
        try simp only [List.getElem_toArray, List.getElem_cons_succ, List.getElem_cons_zero, Act.put, List.setIfInBounds_toArray, List.set_cons_zero, List.set_cons_succ]
        (refine wpAnyH_take (i := 20) (oi := _) (v := ?_) rfl (by kernel_rfl) (by kernel_rfl) (by kernel_rfl) (fun _ _ _ h => h) (Or.inl ⟨by rfl, ?_⟩) (by assumption) ?_; rotate_left; (intro wS hSw; obtain ⟨⟨⟨x0, x1, x2, x3, _⟩, _⟩, ⟨y0, y1, y2, y3, y4⟩, _⟩ := hSw; (try simp only [List.getElem_toArray, List.getElem_cons_succ, List.getElem_cons_zero]); go_simp; (try with_reducible rfl)))
        try simp only [List.getElem_toArray, List.getElem_cons_succ, List.getElem_cons_zero, Act.put, List.setIfInBounds_toArray, List.set_cons_zero, List.set_cons_succ]
        (refine wpAnyH_take (i := 21) (oi := _) (v := ?_) rfl (by kernel_rfl) (by kernel_rfl) (by kernel_rfl) (fun _ _ _ h => h) (Or.inl ⟨by rfl, ?_⟩) (by assumption) ?_; rotate_left; (intro wS hSw; obtain ⟨⟨⟨x0, x1, x2, x3, _⟩, _⟩, ⟨y0, y1, y2, y3, y4⟩, _⟩ := hSw; (try simp only [List.getElem_toArray, List.getElem_cons_succ, List.getElem_cons_zero]); go_simp; (try with_reducible rfl)))
        try simp only [List.getElem_toArray, List.getElem_cons_succ, List.getElem_cons_zero, Act.put, List.setIfInBounds_toArray, List.set_cons_zero, List.set_cons_succ]
        (refine wpAnyH_take (i := 22) (oi := _) (v := ?_) rfl (by kernel_rfl) (by kernel_rfl) (by kernel_rfl) (fun _ _ _ h => h) (Or.inl ⟨by rfl, ?_⟩) (by assumption) ?_; rotate_left; (intro wS hSw; obtain ⟨⟨⟨x0, x1, x2, x3, _⟩, _⟩, ⟨y0, y1, y2, y3, y4⟩, _⟩ := hSw; (try simp only [List.getElem_toArray, List.getElem_cons_succ, List.getElem_cons_zero]); go_simp; (try with_reducible rfl)))
        try simp only [List.getElem_toArray, List.getElem_cons_succ, List.getElem_cons_zero, Act.put, List.setIfInBounds_toArray, List.set_cons_zero, List.set_cons_succ]
        (refine wpAnyH_take (i := 23) (oi := _) (v := ?_) rfl (by kernel_rfl) (by kernel_rfl) (by kernel_rfl) (fun _ _ _ h => h) (Or.inl ⟨by rfl, ?_⟩) (by assumption) ?_; rotate_left; (intro wS hSw; obtain ⟨⟨⟨x0, x1, x2, x3, _⟩, _⟩, ⟨y0, y1, y2, y3, y4⟩, _⟩ := hSw; (try simp only [List.getElem_toArray, List.getElem_cons_succ, List.getElem_cons_zero]); go_simp; (try with_reducible rfl)))
        try simp only [List.getElem_toArray, List.getElem_cons_succ, List.getElem_cons_zero, Act.put, List.setIfInBounds_toArray, List.set_cons_zero, List.set_cons_succ]
        (refine wpAnyH_take (i := 24) (oi := _) (v := ?_) rfl (by kernel_rfl) (by kernel_rfl) (by kernel_rfl) (fun _ _ _ h => h) (Or.inl ⟨by rfl, ?_⟩) (by assumption) ?_; rotate_left; (intro wS hSw; obtain ⟨⟨⟨x0, x1, x2, x3, _⟩, _⟩, ⟨y0, y1, y2, y3, y4⟩, _⟩ := hSw; (try simp only [List.getElem_toArray, List.getElem_cons_succ, List.getElem_cons_zero]); go_simp; (try with_reducible rfl)))
        try simp only [List.getElem_toArray, List.getElem_cons_succ, List.getElem_cons_zero, Act.put, List.setIfInBounds_toArray, List.set_cons_zero, List.set_cons_succ]
        (refine wpAnyH_ready (rs := [16]) (by kernel_rfl) (by simp) ?_; refine AllReadyH.cons (o := _) rfl (fun K hK => ?_) AllReadyH.nil; (try simp only [List.getElem_toArray, List.getElem_cons_succ, List.getElem_cons_zero]); go_simp; go_at_call 17; refine (CI.out _).mono ?_; rintro e w3 ⟨rfl, hb3⟩; have hHeld := hHeld.next hb3; have HB3 := hid hb3; have HBC := hid ((HB2.out.trans ((((Below.refl w2.heap.size w2).drew).trans hb3).mono HB2.out.size)).mono hKK.out.b.size); clear hb3; go_wp2_with fail; refine hK.out _ _ hHeld (fun hHeld => ?_); clear hK K)
        try simp only [List.getElem_toArray, List.getElem_cons_succ, List.getElem_cons_zero, Act.put, List.setIfInBounds_toArray, List.set_cons_zero, List.set_cons_succ]
        (refine wpAnyH_ready (rs := [25]) (by kernel_rfl) (by simp) ?_; refine AllReadyH.cons (o := _) rfl (fun K hK => ?_) AllReadyH.nil; (try simp only [List.getElem_toArray, List.getElem_cons_succ, List.getElem_cons_zero]); go_simp; go_at_call 18; refine (CT.out _ HBC.out).mono ?_; rintro e w4 ⟨rfl, hb4⟩; have hHeld := hHeld.next hb4; have HB4 := hid (((HB2.out.trans ((((Below.refl w2.heap.size w2).drew).trans HB3.out).mono HB2.out.size))).trans (hb4.mono (Nat.le_trans HB2.out.size HB3.out.size))); have HK4 := hid hHeld; have hrow4 : w4.ownsRow (w.heap.size + 1) 43 1 (.slice Ar L.length cr) L.length (L.map rowV) := row_under hrow.out.1 HB4.out; have HRow4 := hid hrow4; have HC3 : Hid (L.length + 1 ≤ maxLen) := (by unfold maxLen; exact hid (by have := HLL.out; omega)); have HC4 : Hid ((L.length + 1) * 24 ≤ 140737488355328) := hid (by have := HLL.out; omega); clear hb4 hrow4; go_wp2_with fail; refine hK.out _ _ hHeld (fun hHeld => ?_); clear hK K)
        try simp only [List.getElem_toArray, List.getElem_cons_succ, List.getElem_cons_zero, Act.put, List.setIfInBounds_toArray, List.set_cons_zero, List.set_cons_succ]
        (refine wpAnyH_ready (rs := [26]) (by kernel_rfl) (by simp) ?_; refine AllReadyH.cons (o := _) rfl (fun K hK => ?_) AllReadyH.nil; (try simp only [List.getElem_toArray, List.getElem_cons_succ, List.getElem_cons_zero]); go_simp; go_wp2_with fail; refine hK.out _ _ (hHeld.next ((Below.refl _ _).alloc (Nat.le_refl _) _)) (fun hHeld => ?_); clear hK K)
        try simp only [List.getElem_toArray, List.getElem_cons_succ, List.getElem_cons_zero, Act.put, List.setIfInBounds_toArray, List.set_cons_zero, List.set_cons_succ]
        (refine wpAnyH_ready (rs := [27]) (by kernel_rfl) (by simp) ?_; refine AllReadyH.cons (o := _) rfl (fun K hK => ?_) AllReadyH.nil; (try simp only [List.getElem_toArray, List.getElem_cons_succ, List.getElem_cons_zero]); go_simp; go_wp2_with fail; refine hK.out _ _ (hHeld.next ((Below.refl _ _).alloc (Nat.le_refl _) _)) (fun hHeld => ?_); clear hK K)
        try simp only [List.getElem_toArray, List.getElem_cons_succ, List.getElem_cons_zero, Act.put, List.setIfInBounds_toArray, List.set_cons_zero, List.set_cons_succ]
        (refine wpAnyH_ready (rs := [28]) (by kernel_rfl) (by simp) ?_; refine AllReadyH.cons (o := _) rfl (fun K hK => ?_) AllReadyH.nil; (try simp only [List.getElem_toArray, List.getElem_cons_succ, List.getElem_cons_zero]); refine step_append_lies (a := { tmps := _, defers := _ }) _ (by rfl) _ _ _ (by rfl) (w.heap.size + 1) 43 iS (.slice none 0 0) 1 24 Tryz.underlying25 hiS hzS hsS hbS rfl (by decide) (.slice Ar L.length cr) L.length (L.map rowV) (by rfl) (World.ownsRow.alloc (World.ownsRow.alloc HRow4.out _) _) ⟨w4.heap.size + 1, 0, none⟩ 1 1 [.slice (some ⟨w4.heap.size, 0, none⟩) 5 5] (by rfl) (by rfl) (by have := one_new (w4.alloc (.cells #[.string X1, .string X2, .string X3, .string X4, .string X5] 9)) (.slice (some ⟨w4.heap.size, 0, none⟩) 5 5) 43; simpa using this) (one_slice _ _ _) (by decide) HC3.out HC4.out (by have := HK4.out.g.x.lt; simp; omega) (w4.heap.size + 1 + 1) (by simp) ?_; intro g7 cap7 w7 hown7 hgrow7 hat7 hlt7; have hHeld := hHeld.grown hgrow7 (fun k hk => (World.ownsRow.lt HRow4.out k hk).1); have HOWN := hid hown7; have HGR := hid hgrow7; have HAT := hid hat7; clear hown7 hgrow7 hat7; refine hK.out _ _ hHeld (fun hHeld => ?_); clear hK K)
        try simp only [List.getElem_toArray, List.getElem_cons_succ, List.getElem_cons_zero, Act.put, List.setIfInBounds_toArray, List.set_cons_zero, List.set_cons_succ]
        (refine wpAnyH_take (i := 29) (oi := _) (v := ?_) rfl (by kernel_rfl) (by kernel_rfl) (by kernel_rfl) (fun _ _ _ h => h) (Or.inl ⟨by rfl, ?_⟩) (by assumption) ?_; rotate_left; (intro wS hSw; obtain ⟨⟨⟨x0, x1, x2, x3, _⟩, _⟩, ⟨y0, y1, y2, y3, y4⟩, _⟩ := hSw; (try simp only [List.getElem_toArray, List.getElem_cons_succ, List.getElem_cons_zero]); go_simp; (try with_reducible rfl)))
        try simp only [List.getElem_toArray, List.getElem_cons_succ, List.getElem_cons_zero, Act.put, List.setIfInBounds_toArray, List.set_cons_zero, List.set_cons_succ]
        refine wpAnyH_done (by kernel_rfl) ?_ _
        have hin : S3.StrRow (w4.alloc (.cells #[.string X1, .string X2, .string X3, .string X4, .string X5] 9)) w4.heap.size (.slice (some ⟨w4.heap.size, 0, none⟩) RW.length 5) RW := by
          unfold S3.StrRow
          rw [HRV.out, HR5.out]
          exact World.ownsRow_lit w4 #[.string X1, .string X2, .string X3, .string X4, .string X5] 5 (Nat.le_refl _) (by decide) rfl
        have hown7 := HOWN.out
        rw [show (5 : Nat) = RW.length from HR5.out.symm] at hown7
        have hsn := RowsRow.snoc (c := 5) hrow.out (by have := HK4.out.g.x.lt; omega) HB4.out ((Below.refl w4.heap.size w4).alloc (Nat.le_refl _) _) hin ((Below.refl _ (w4.alloc (.cells #[.string X1, .string X2, .string X3, .string X4, .string X5] 9))).alloc (Nat.le_refl _) _) (by rw [HR5.out] at hown7 ⊢; exact hown7) HGR.out (by
          rcases HAT.out with h | h
          · exact .inl h.symm
          · exact .inr (by rw [h]; simp [Value.ownBlock]))
        have HSN := hid hsn
        have HK7 := hid hHeld.g
        have HL2 : Hid ((L ++ [((RW, some ⟨w4.heap.size, 0, none⟩, 5) : RowA)]).map (·.1) = (l.take (i + 1)).map (rowR d s b m n)) := hid (by rw [HST.out, List.map_append]; rfl)
        clear hin hown7 hsn hHeld
        go_wp2
        go_roundw
        case rel => exact ⟨i + 1, L ++ [((RW, some ⟨w4.heap.size, 0, none⟩, 5) : RowA)], by go_num, by omega, HL2, HSN, HK7⟩
        case measure => simp [RowKit.intOf]; omega
      · have hltz : ¬ (i : Int) < (l.length : Int) := by omega
        have hL2 : Hid (L.map (·.1) = l.map (rowR d s b m n)) := hid (by rw [hL.out, List.take_of_length_le (by omega)])
        go_wp2
        go_ret2
        exact ⟨⟨_, L, hL2.out, rfl, hrow.out.low (by omega)⟩, hKK.out.b⟩
  · have hR1 : (R != 0) = true := by simpa using hR0
    have hR2 : (R == 0) = false := by simpa using hR0
    rw [if_pos hR0]
    clear hR
    go_enter Tryz.func6, Tryz.ntmps6
    go_wp2_with fail
    refine (CV.out _ HK.out.b).mono ?_
    rintro e w1 ⟨rfl, hb⟩
    have HK1 := hid (HK.out.next hb)
    clear hb HK CV
    go_wp2
    go_ret2
    exact ⟨⟨_, [], rfl, rfl, RowsRow.nil _ _⟩, HK1.out.b⟩
end Go.Proofs.YteckefolakjafaaGreatDoor

set_option linter.unusedVariables false
namespace Go.Proofs.YteckefolakjafaaGreatDoor
open Go Go.Proofs Go.RowKit Go.Lib

/-- Behind both calls of Write. -/
structure VK (w0 w2 : World) (d s b m : Int) (w : World) : Prop where
  g : K1 w0 d s b m w
  b : Below w2.heap.size w2 w
theorem VK.next {w0 w2 w w' : World} {d s b m : Int} (h : VK w0 w2 d s b m w) (k : Below w.heap.size w w') : VK w0 w2 d s b m w' := ⟨h.g.next k, h.b.trans (k.mono h.b.size)⟩
set_option maxHeartbeats 16000000 in
set_option maxRecDepth 100000 in
theorem rvalidLaw_any (d s b m n : Int) (A : Option Addr) (l : List RoomD) (c : Nat) (w : World) (h : RoomsIn w (fun k => k < w.heap.size) A l) (hE : Env7 w) (hR : REnv7 w)
    (hA : ∀ w', Below w.heap.size w w' → Calls Tryz.prog 7 #[] w' (Says (.bool true) w')) :
    Calls Tryz.prog 3 #[.slice A l.length c, .agg #[.int .i64 d, .int .i64 s, .int .i64 b, .int .i64 m], .int .i64 n] w fun e w' => e = .returned (.bool true) ∧ Below w.heap.size w w' := by
  have hk := K1.first w d s b m 24
  have HK := hid hk
  have hin : ∀ w', Below w.heap.size w w' → RoomsIn w' (fun k => k < w'.heap.size) A l := fun w' hb => (h.below hb).mono (fun k hk => Nat.lt_of_lt_of_le hk hb.size)
  have cW := fun w' (hb : Below w.heap.size w w') => write_any d s b m n A l c w' (hin w' hb) (hE.below hb (Nat.le_refl _))
  have cR := fun w' (hb : Below w.heap.size w w') => rwrite_any d s b m n A l c w' (hin w' hb) (hR.below hb (Nat.le_refl _))
  have cV := fun w' (hb : Below w.heap.size w w') => rvalid7_any d s b m n A l c w' (hin w' hb)
  have cQ := fun w' (hb : Below w.heap.size w w') => rrvalid_any d s b m n A l c w' (hin w' hb)
  unfold WriteOut at cW cR
  unfold Says at cV cQ hA
  obtain ⟨⟨RL, RE⟩, hO⟩ : ∃ O, writeR d s b m n l = O := ⟨_, rfl⟩
  obtain ⟨V, hV⟩ : ∃ V, validR d s b m n l = V := ⟨_, rfl⟩
  rw [hO] at cW cR
  rw [hV] at cV cQ
  have CW := hid cW
  have CR := hid cR
  have CV := hid cV
  have CQ := hid cQ
  have CA := hid hA
  clear hk h hE hR hin cW cR cV cQ hA hO hV
  obtain ⟨g0, g1, g2, g3, _⟩ := HK.out.x
  go_enter Tryz.func3, Tryz.ntmps3
  go_wp2_with fail
  refine (CW.out _ HK.out.b).mono ?_
  rintro e w1 ⟨⟨v1, L1, hL1, rfl, hr1⟩, hb1⟩
  have HK1 := hid (HK.out.next hb1)
  have HR1 := hid hr1
  clear g0 g1 g2 g3 HK hb1 hr1
  obtain ⟨g0, g1, g2, g3, _⟩ := HK1.out.x
  go_wp2_with fail
  refine (CR.out _ HK1.out.b).mono ?_
  rintro e w2 ⟨⟨v2, L2, hL2, rfl, hr2⟩, hb2⟩
  obtain ⟨A1, c1, rfl, hl1, hm1, hi1⟩ := HR1.out.rowsIn
  obtain ⟨A2, c2, rfl, hl2, hm2, hi2⟩ := hr2.rowsIn
  rw [hL1] at hi1
  rw [hL2] at hi2
  have e1 : L1.length = RL.length := by rw [← hL1, List.length_map]
  have e2 : L2.length = RL.length := by rw [← hL2, List.length_map]
  rw [e1] at hl1
  rw [e2] at hl2
  rw [e1, e2]
  have hi1' : RowsIn w2 (fun k => k < w2.heap.size) A1 RL := (hi1.kept (fun k hk => hb2.block k hk.2)).mono (fun k hk => Nat.lt_of_lt_of_le hk.2 hb2.size)
  have hi2' : RowsIn w2 (fun k => k < w2.heap.size) A2 RL := hi2.mono (fun k hk => hk.2)
  have hk' : VK w w2 d s b m w2 := ⟨HK1.out.next hb2, Below.refl _ _⟩
  have cA : Hid (∀ wx, VK w w2 d s b m wx → Calls Tryz.prog 7 #[] wx fun e w' => e = .returned (.bool true) ∧ VK w w2 d s b m w') := hid fun wx h => (CA.out wx h.g.b).mono fun e w' ⟨he, hb⟩ => ⟨he, h.next hb⟩
  have cV : Hid (∀ wx, VK w w2 d s b m wx → Calls Tryz.prog 8 #[.slice A l.length c, .agg #[.int .i64 d, .int .i64 s, .int .i64 b, .int .i64 m], .int .i64 n] wx fun e w' => e = .returned (.int .i64 V) ∧ VK w w2 d s b m w') := hid fun wx h => (CV.out wx h.g.b).mono fun e w' ⟨he, hb⟩ => ⟨he, h.next hb⟩
  have cQ : Hid (∀ wx, VK w w2 d s b m wx → Calls Tryz.prog 9 #[.slice A l.length c, .agg #[.int .i64 d, .int .i64 s, .int .i64 b, .int .i64 m], .int .i64 n] wx fun e w' => e = .returned (.int .i64 V) ∧ VK w w2 d s b m w') := hid fun wx h => (CQ.out wx h.g.b).mono fun e w' ⟨he, hb⟩ => ⟨he, h.next hb⟩
  have cS : Hid (∀ wx, VK w w2 d s b m wx → Calls Tryz.prog 10 #[.slice A1 RL.length c1, .slice A2 RL.length c2] wx fun e w' => e = .returned (.bool true) ∧ VK w w2 d s b m w') := hid fun wx h =>
    (sameLists_any A1 A2 RL RL c1 c2 _ _ wx (hi1'.kept (fun k hk => h.b.block k hk)) (hi2'.kept (fun k hk => h.b.block k hk)) (by omega)).mono fun e w' ⟨he, q, hw⟩ => ⟨by rw [he, decide_eq_true rfl], by rw [hw]; exact h.next (S3.below_drewN (Below.refl _ _) q)⟩
  clear CA CV CQ CW CR hi1 hi2 hi1' hi2' hl1 hl2 hm1 hm2 hr2 HR1 HK1 hb2 g0 g1 g2 g3 hL1 hL2 e1 e2
  obtain ⟨g0, g1, g2, g3, _⟩ := id hk'.g.x
  go_wp2_with fail
  go_region_held3 (fun w' => w'.cell? ⟨w.heap.size, 0, none⟩ = some (.int .i64 d) ∧ w'.cell? ⟨w.heap.size, 1, none⟩ = some (.int .i64 s) ∧ w'.cell? ⟨w.heap.size, 2, none⟩ = some (.int .i64 b) ∧ w'.cell? ⟨w.heap.size, 3, none⟩ = some (.int .i64 m))
    (first | exact ⟨hk'.g.x.c0, hk'.g.x.c1, hk'.g.x.c2, hk'.g.x.c3⟩ | exact ⟨(hk'.next (Below.refl _ _).drew).g.x.c0, (hk'.next (Below.refl _ _).drew).g.x.c1, (hk'.next (Below.refl _ _).drew).g.x.c2, (hk'.next (Below.refl _ _).drew).g.x.c3⟩)
    (first
      | (go_at_call 7; refine (cA.out _ (hk'.next (Below.refl _ _).drew)).mono ?_; rintro e w' ⟨rfl, hk'⟩)
      | (go_at_call 7; refine (cA.out _ hk').mono ?_; rintro e w' ⟨rfl, hk'⟩)
      | (go_at_call 8; refine (cV.out _ hk').mono ?_; rintro e w' ⟨rfl, hk'⟩)
      | (go_at_call 9; refine (cQ.out _ hk').mono ?_; rintro e w' ⟨rfl, hk'⟩)
      | (go_at_call 10; refine (cS.out _ hk').mono ?_; rintro e w' ⟨rfl, hk'⟩))
  all_goals
    go_wp2_with fail
    go_ret
    exact ⟨rfl, hk'.g.b⟩
end Go.Proofs.YteckefolakjafaaGreatDoor

