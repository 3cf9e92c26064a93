/-
  A made time: Time of timetablemade.Dice gives back a time that fits the grid. Conditions: the dice lie in memory; the grid is as made; the number of weeks is from 1 to 20.
  The walk of TimegridReturns: a made time is read as it was written. Conditions: the numbers lie in memory as a slice of ints; the variables hold what their text lays.
-/
import Derived.Test.YtigdcgklpapfbaaGreatDoorVR25
set_option linter.unusedVariables false
namespace Go.Proofs.YtigdcgklpapfbaaGreatDoor
open Go Go.Proofs Go.RowKit Go.Lib

/-- A time as it is made in a grid of d days with s slots. -/
def MadeT (d s : Int) (n : Nat) (k y t l : Int) : Prop := (1 ≤ k ∧ k < 2 ^ n) ∧ (0 ≤ y ∧ y < d) ∧ (0 ≤ t ∧ t < s) ∧ 1 ≤ l ∧ t + l ≤ s
/-- Ahead of the time's own block. -/
structure TK (w0 : World) (g c : Nat) (A : Option Addr) (L : List Int) (d s b m : Int) (w : World) : Prop where
  x : Cells4 24 w w0.heap.size d s b m
  r : Cells4 66 w (w0.heap.size + 1) 0 0 0 0
  e : ∃ k, DE w0 g c A L k w
  g0 : g < w0.heap.size
/-- With the time's own block t. -/
structure TA (w0 : World) (g c : Nat) (A : Option Addr) (L : List Int) (d s b m : Int) (t : Nat) (k1 k2 k3 k4 : Int) (w : World) : Prop where
  h : TK w0 g c A L d s b m w
  tm : Cells4 66 w t k1 k2 k3 k4
  tl : w0.heap.size + 2 ≤ t
section
variable {w0 w w' : World} {g c : Nat} {A : Option Addr} {L : List Int} {d s b m k1 k2 k3 k4 : Int} {t : Nat}
theorem TK.roll (h : TK w0 g c A L d s b m w) (hd : ∃ k', DiceAt w' g A L c k') (hr : Rolled g w w') : TK w0 g c A L d s b m w' := by
  obtain ⟨k, he⟩ := h.e
  obtain ⟨k', hd⟩ := hd
  have := h.g0
  exact ⟨h.x.roll hr (by omega), h.r.roll hr (by omega), ⟨k', he.next hd hr⟩, h.g0⟩
theorem TK.below (h : TK w0 g c A L d s b m w) (k : Below w.heap.size w w') : TK w0 g c A L d s b m w' := by
  obtain ⟨q, he⟩ := h.e
  exact ⟨h.x.under k, h.r.under k, ⟨q, he.below (k.mono he.p.size) h.g0⟩, h.g0⟩
theorem TK.drew (h : TK w0 g c A L d s b m w) : TK w0 g c A L d s b m w.drew := h.below (Below.refl _ w).drew
theorem TK.alloc (h : TK w0 g c A L d s b m w) : TA w0 g c A L d s b m w.heap.size 0 0 0 0 (w.alloc (.cells #[.int .i64 0, .int .i64 0, .int .i64 0, .int .i64 0] 66)) :=
  ⟨h.below ((Below.refl _ w).alloc (Nat.le_refl _) _), Cells4.new w 0 0 0 0 _, h.r.lt⟩
theorem TA.roll (h : TA w0 g c A L d s b m t k1 k2 k3 k4 w) (hd : ∃ k', DiceAt w' g A L c k') (hr : Rolled g w w') : TA w0 g c A L d s b m t k1 k2 k3 k4 w' :=
  ⟨h.h.roll hd hr, h.tm.roll hr (by have := h.h.g0; have := h.tl; omega), h.tl⟩
/-- A store into the time's own block. -/
theorem TK.set (h : TK w0 g c A L d s b m w) (ht : w0.heap.size + 2 ≤ t) (j : Nat) (v : Value) : TK w0 g c A L d s b m (w.setCell ⟨t, j, none⟩ v) := by
  obtain ⟨k, he⟩ := h.e
  have := h.g0
  exact ⟨h.x.other t j v (by omega), h.r.other t j v (by omega), ⟨k, he.set _ _ _ (by omega) (by omega)⟩, h.g0⟩
theorem TA.store (h : TA w0 g c A L d s b m t k1 k2 k3 k4 w) (v0 v1 v2 v3 : Int) :
    TA w0 g c A L d s b m t v0 v1 v2 v3 ((((w.setCell ⟨t, 0, none⟩ (.int .i64 v0)).setCell ⟨t, 1, none⟩ (.int .i64 v1)).setCell ⟨t, 2, none⟩ (.int .i64 v2)).setCell ⟨t, 3, none⟩ (.int .i64 v3)) :=
  ⟨(((h.h.set h.tl _ _).set h.tl _ _).set h.tl _ _).set h.tl _ _, h.tm.all v0 v1 v2 v3, h.tl⟩
theorem TA.last (h : TA w0 g c A L d s b m t k1 k2 k3 k4 w) (v : Int) : TA w0 g c A L d s b m t k1 k2 k3 v (w.setCell ⟨t, 3, none⟩ (.int .i64 v)) :=
  ⟨h.h.set h.tl _ _, h.tm.set3 v, h.tl⟩
/-- The result stored. -/
theorem TA.fin (h : TA w0 g c A L d s b m t k1 k2 k3 k4 w) (v0 v1 v2 v3 : Int) (W : World)
    (hW : W = ((((w.setCell ⟨w0.heap.size + 1, 0, none⟩ (.int .i64 v0)).setCell ⟨w0.heap.size + 1, 1, none⟩ (.int .i64 v1)).setCell ⟨w0.heap.size + 1, 2, none⟩ (.int .i64 v2)).setCell ⟨w0.heap.size + 1, 3, none⟩ (.int .i64 v3))) :
    (loadVar 66 ⟨w0.heap.size + 1, 0, none⟩).run Tryz.prog W = .ok (.agg #[.int .i64 v0, .int .i64 v1, .int .i64 v2, .int .i64 v3]) W ∧ ∃ k, DE w0 g c A L k W := by
  subst hW
  obtain ⟨k, he⟩ := h.h.e
  have := h.h.g0
  exact ⟨load_time (h.h.r.all _ _ _ _), k, (((he.set _ _ _ (by omega) (by omega)).set _ _ _ (by omega) (by omega)).set _ _ _ (by omega) (by omega)).set _ _ _ (by omega) (by omega)⟩
end
theorem TK.first {w : World} {g c k : Nat} {A : Option Addr} {L : List Int} (h : DiceAt w g A L c k) (d s b m : Int) :
    TK w g c A L d s b m ((w.alloc (.cells #[.int .i64 d, .int .i64 s, .int .i64 b, .int .i64 m] 24)).alloc (.cells #[.int .i64 0, .int .i64 0, .int .i64 0, .int .i64 0] 66)) := by
  have h1 := Cells4.new w d s b m 24
  have he := (DE.first h).alloc (.cells #[.int .i64 d, .int .i64 s, .int .i64 b, .int .i64 m] 24)
  have hs : (w.alloc (.cells #[.int .i64 d, .int .i64 s, .int .i64 b, .int .i64 m] 24)).heap.size = w.heap.size + 1 := by simp
  generalize w.alloc (.cells #[.int .i64 d, .int .i64 s, .int .i64 b, .int .i64 m] 24) = w1 at h1 he hs ⊢
  have h2 := Cells4.new w1 0 0 0 0 66
  rw [hs] at h2
  exact ⟨h1.under ((Below.refl _ w1).alloc (Nat.le_refl _) _), h2, ⟨k, he.alloc _⟩, h.lt⟩

set_option maxHeartbeats 8000000 in
set_option maxRecDepth 100000 in
theorem time_any (g c k : Nat) (A : Option Addr) (L : List Int) (d s b m : Int) (n : Nat) (h1 : 1 ≤ n) (h2 : n ≤ 20) (hd1 : 1 ≤ d) (hd2 : d ≤ 100) (hs1 : 1 ≤ s) (hs2 : s ≤ 100) (w : World) (h : DiceAt w g A L c k) :
    Calls Tryz.prog 95 #[.pointer (some ⟨g, 0, none⟩), .agg #[.int .i64 d, .int .i64 s, .int .i64 b, .int .i64 m], .int .i64 (n : Int)] w (FourP (MadeT d s n) g c A L w) := by
  have hN : ∀ q : Int, 1 ≤ q → q ≤ 4294967296 → ∀ W, TK w g c A L d s b m W → Calls Tryz.prog 26 #[.pointer (some ⟨g, 0, none⟩), .int .i64 q] W fun e w' => (∃ r : Int, e = .returned (.int .i64 r) ∧ 0 ≤ r ∧ r < q) ∧ TK w g c A L d s b m w' := fun q hq hq2 W hk => by
    obtain ⟨k, he⟩ := hk.e
    refine (next_any g c k A L q hq2 W he.d).mono ?_
    rintro e w' ⟨⟨r, h1, h2⟩, h3, h4⟩
    exact ⟨⟨r, h1, h2 hq⟩, hk.roll h3 h4⟩
  have hNa : ∀ (t : Nat) (k1 k2 k3 k4 : Int) (q : Int), 1 ≤ q → q ≤ 4294967296 → ∀ W, TA w g c A L d s b m t k1 k2 k3 k4 W → Calls Tryz.prog 26 #[.pointer (some ⟨g, 0, none⟩), .int .i64 q] W fun e w' => (∃ r : Int, e = .returned (.int .i64 r) ∧ 0 ≤ r ∧ r < q) ∧ TA w g c A L d s b m t k1 k2 k3 k4 w' := fun t k1 k2 k3 k4 q hq hq2 W hk => by
    obtain ⟨k, he⟩ := hk.h.e
    refine (next_any g c k A L q hq2 W he.d).mono ?_
    rintro e w' ⟨⟨r, h1, h2⟩, h3, h4⟩
    exact ⟨⟨r, h1, h2 hq⟩, hk.roll h3 h4⟩
  have cS : Hid (∀ W, TK w g c A L d s b m W → Calls Tryz.prog 94 #[.pointer (some ⟨g, 0, none⟩), .int .i64 (n : Int)] W fun e w' => (∃ r : Int, e = .returned (.int .i64 r) ∧ 1 ≤ r ∧ r < 2 ^ n) ∧ TK w g c A L d s b m w') := hid (fun W hk => by
    obtain ⟨k, he⟩ := hk.e
    refine (set_any n h1 h2 g c k A L W he.d).mono ?_
    rintro e w' ⟨⟨r, h1, h2⟩, h3, h4⟩
    exact ⟨⟨r, h1, h2⟩, hk.roll h3 h4⟩)
  have cSa : Hid (∀ W (t : Nat), TA w g c A L d s b m t 0 0 0 0 W → Calls Tryz.prog 94 #[.pointer (some ⟨g, 0, none⟩), .int .i64 (n : Int)] W fun e w' => (∃ r : Int, e = .returned (.int .i64 r) ∧ 1 ≤ r ∧ r < 2 ^ n) ∧ TA w g c A L d s b m t 0 0 0 0 w') := hid (fun W t hk => by
    obtain ⟨k, he⟩ := hk.h.e
    refine (set_any n h1 h2 g c k A L W he.d).mono ?_
    rintro e w' ⟨⟨r, h1, h2⟩, h3, h4⟩
    exact ⟨⟨r, h1, h2⟩, hk.roll h3 h4⟩)
  have cN1 := hid (hN d hd1 (by omega))
  have cN2 := hid (hN s hs1 (by omega))
  have cN1a := hid (fun W (t : Nat) h => hNa t 0 0 0 0 d hd1 (by omega) W h)
  have cN2a := hid (fun W (t : Nat) h => hNa t 0 0 0 0 s hs1 (by omega) W h)
  have HNA := hid hNa
  have hk := TK.first h d s b m
  have HK := hid hk
  clear h hN hNa hk
  go_enter Tryz.func95, Tryz.ntmps95
  go_wp2_with fail
  have hk := HK.out.drew
  clear HK
  refine wp_region_held_drew (S := fun W => Box4 W w.heap.size d s b m) (by kernel_rfl) hk.x.box (fun hHeld => ?_)
  generalize World.drew _ = w1 at hk hHeld ⊢
  (refine wpAnyH_take (i := 0) (oi := _) (v := ?_) rfl (by kernel_rfl) (by kernel_rfl) (by kernel_rfl) (fun _ _ _ h => h) (Or.inl ⟨by rfl, ?_⟩) (by assumption) ?_; rotate_left; (intro wS hSw; obtain ⟨x0, x1, x2, x3, _⟩ := hSw; (try simp only [List.getElem_toArray, List.getElem_cons_zero]); go_simp; (try with_reducible rfl)))
  try simp only [List.getElem_toArray, List.getElem_cons_zero, Act.put, List.setIfInBounds_toArray, List.set_cons_zero, List.set_cons_succ]
  (refine wpAnyH_take (i := 1) (oi := _) (v := ?_) rfl (by kernel_rfl) (by kernel_rfl) (by kernel_rfl) (fun _ _ _ h => h) (Or.inl ⟨by rfl, ?_⟩) (by assumption) ?_; rotate_left; (intro wS hSw; obtain ⟨x0, x1, x2, x3, _⟩ := hSw; (try simp only [List.getElem_toArray, List.getElem_cons_succ, List.getElem_cons_zero]); go_simp; (try with_reducible rfl)))
  try simp only [List.getElem_toArray, List.getElem_cons_succ, List.getElem_cons_zero, Act.put, List.setIfInBounds_toArray, List.set_cons_zero, List.set_cons_succ]
  (refine wpAnyH_take (i := 3) (oi := _) (v := ?_) rfl (by kernel_rfl) (by kernel_rfl) (by kernel_rfl) (fun _ _ _ h => h) (Or.inl ⟨by rfl, ?_⟩) (by assumption) ?_; rotate_left; (intro wS hSw; obtain ⟨x0, x1, x2, x3, _⟩ := hSw; (try simp only [List.getElem_toArray, List.getElem_cons_succ, List.getElem_cons_zero]); go_simp; (try with_reducible rfl)))
  try simp only [List.getElem_toArray, List.getElem_cons_succ, List.getElem_cons_zero, Act.put, List.setIfInBounds_toArray, List.set_cons_zero, List.set_cons_succ]
  (refine wpAnyH_take (i := 4) (oi := _) (v := ?_) rfl (by kernel_rfl) (by kernel_rfl) (by kernel_rfl) (fun _ _ _ h => h) (Or.inl ⟨by rfl, ?_⟩) (by assumption) ?_; rotate_left; (intro wS hSw; obtain ⟨x0, x1, x2, x3, _⟩ := hSw; (try simp only [List.getElem_toArray, List.getElem_cons_succ, List.getElem_cons_zero]); go_simp; (try with_reducible rfl)))
  try simp only [List.getElem_toArray, List.getElem_cons_succ, List.getElem_cons_zero, Act.put, List.setIfInBounds_toArray, List.set_cons_zero, List.set_cons_succ]
  (refine wpAnyH_take (i := 5) (oi := _) (v := ?_) rfl (by kernel_rfl) (by kernel_rfl) (by kernel_rfl) (fun _ _ _ h => h) (Or.inl ⟨by rfl, ?_⟩) (by assumption) ?_; rotate_left; (intro wS hSw; obtain ⟨x0, x1, x2, x3, _⟩ := hSw; (try simp only [List.getElem_toArray, List.getElem_cons_succ, List.getElem_cons_zero]); go_simp; (try with_reducible rfl)))
  try simp only [List.getElem_toArray, List.getElem_cons_succ, List.getElem_cons_zero, Act.put, List.setIfInBounds_toArray, List.set_cons_zero, List.set_cons_succ]
  (refine wpAnyH_take (i := 7) (oi := _) (v := ?_) rfl (by kernel_rfl) (by kernel_rfl) (by kernel_rfl) (fun _ _ _ h => h) (Or.inl ⟨by rfl, ?_⟩) (by assumption) ?_; rotate_left; (intro wS hSw; obtain ⟨x0, x1, x2, x3, _⟩ := hSw; (try simp only [List.getElem_toArray, List.getElem_cons_succ, List.getElem_cons_zero]); go_simp; (try with_reducible rfl)))
  try simp only [List.getElem_toArray, List.getElem_cons_succ, List.getElem_cons_zero, Act.put, List.setIfInBounds_toArray, List.set_cons_zero, List.set_cons_succ]
  (refine wpAnyH_take (i := 8) (oi := _) (v := ?_) rfl (by kernel_rfl) (by kernel_rfl) (by kernel_rfl) (fun _ _ _ h => h) (Or.inl ⟨by rfl, ?_⟩) (by assumption) ?_; rotate_left; (intro wS hSw; obtain ⟨x0, x1, x2, x3, _⟩ := hSw; (try simp only [List.getElem_toArray, List.getElem_cons_succ, List.getElem_cons_zero]); go_simp; (try with_reducible rfl)))
  try simp only [List.getElem_toArray, List.getElem_cons_succ, List.getElem_cons_zero, Act.put, List.setIfInBounds_toArray, List.set_cons_zero, List.set_cons_succ]
  (refine wpAnyH_take (i := 9) (oi := _) (v := ?_) rfl (by kernel_rfl) (by kernel_rfl) (by kernel_rfl) (fun _ _ _ h => h) (Or.inl ⟨by rfl, ?_⟩) (by assumption) ?_; rotate_left; (intro wS hSw; obtain ⟨x0, x1, x2, x3, _⟩ := hSw; (try simp only [List.getElem_toArray, List.getElem_cons_succ, List.getElem_cons_zero]); go_simp; (try with_reducible rfl)))
  try simp only [List.getElem_toArray, List.getElem_cons_succ, List.getElem_cons_zero, Act.put, List.setIfInBounds_toArray, List.set_cons_zero, List.set_cons_succ]
  refine wpAnyH_ready (rs := [2, 12]) (by kernel_rfl) (by simp) ?_
  refine AllReadyH.cons (o := _) rfl (fun K hK => ?_) (AllReadyH.cons (o := _) rfl (fun K hK => ?_) AllReadyH.nil)
  · (try simp only [List.getElem_toArray, List.getElem_cons_succ, List.getElem_cons_zero])
    go_simp
    go_at_call 94
    refine (cS.out _ hk).mono ?_
    rintro e w1 ⟨⟨k1, rfl, p1, p1b⟩, hk⟩
    go_wp2_with fail
    refine hK.out _ _ (hk.x.box) (fun hHeld => ?_)
    clear hK K
    try simp only [List.getElem_toArray, List.getElem_cons_succ, List.getElem_cons_zero, Act.put, List.setIfInBounds_toArray, List.set_cons_zero, List.set_cons_succ]
    refine wpAnyH_ready (rs := [6, 12]) (by kernel_rfl) (by simp) ?_
    refine AllReadyH.cons (o := _) rfl (fun K hK => ?_) (AllReadyH.cons (o := _) rfl (fun K hK => ?_) AllReadyH.nil)
    · (try simp only [List.getElem_toArray, List.getElem_cons_succ, List.getElem_cons_zero])
      go_simp
      go_at_call 26
      refine (cN1.out _ hk).mono ?_
      rintro e w1 ⟨⟨k2, rfl, p2, p2b⟩, hk⟩
      go_wp2_with fail
      refine hK.out _ _ (hk.x.box) (fun hHeld => ?_)
      clear hK K
      try simp only [List.getElem_toArray, List.getElem_cons_succ, List.getElem_cons_zero, Act.put, List.setIfInBounds_toArray, List.set_cons_zero, List.set_cons_succ]
      refine wpAnyH_ready (rs := [10, 12]) (by kernel_rfl) (by simp) ?_
      refine AllReadyH.cons (o := _) rfl (fun K hK => ?_) (AllReadyH.cons (o := _) rfl (fun K hK => ?_) AllReadyH.nil)
      · (try simp only [List.getElem_toArray, List.getElem_cons_succ, List.getElem_cons_zero])
        go_simp
        go_at_call 26
        refine (cN2.out _ hk).mono ?_
        rintro e w1 ⟨⟨k3, rfl, p3, p3b⟩, hk⟩
        go_wp2_with fail
        refine hK.out _ _ (hk.x.box) (fun hHeld => ?_)
        clear hK K
        try simp only [List.getElem_toArray, List.getElem_cons_succ, List.getElem_cons_zero, Act.put, List.setIfInBounds_toArray, List.set_cons_zero, List.set_cons_succ]
        (refine wpAnyH_take (i := 11) (oi := _) (v := ?_) rfl (by kernel_rfl) (by kernel_rfl) (by kernel_rfl) (fun _ _ _ h => h) (Or.inl ⟨by rfl, ?_⟩) (by assumption) ?_; rotate_left; (intro wS hSw; obtain ⟨x0, x1, x2, x3, _⟩ := hSw; (try simp only [List.getElem_toArray, List.getElem_cons_succ, List.getElem_cons_zero]); go_simp; (try with_reducible rfl)))
        try simp only [List.getElem_toArray, List.getElem_cons_succ, List.getElem_cons_zero, Act.put, List.setIfInBounds_toArray, List.set_cons_zero, List.set_cons_succ]
        refine wpAnyH_ready (rs := [12]) (by kernel_rfl) (by simp) ?_
        refine AllReadyH.cons (o := _) rfl (fun K hK => ?_) AllReadyH.nil
        (try simp only [List.getElem_toArray, List.getElem_cons_succ, List.getElem_cons_zero])
        go_simp
        have ha := hk.alloc
        generalize w1.heap.size = t at ha ⊢
        refine hK.out _ _ ha.h.x.box (fun hHeld => ?_)
        clear hK K hk
        try simp only [List.getElem_toArray, List.getElem_cons_succ, List.getElem_cons_zero, Act.put, List.setIfInBounds_toArray, List.set_cons_zero, List.set_cons_succ]
        have x := ha.tm.box
        obtain ⟨y0, y1, y2, y3, _⟩ := x
        have f0 := ha.tm.free 0
        have f1 := ha.tm.free 1
        have f2 := ha.tm.free 2
        have f3 := ha.tm.free 3
        refine wpAnyH_ready (rs := [13]) (by kernel_rfl) (by simp) ?_
        refine AllReadyH.cons (o := _) rfl (fun K hK => ?_) AllReadyH.nil
        (try simp only [List.getElem_toArray, List.getElem_cons_succ, List.getElem_cons_zero])
        go_simp
        have ha := ha.store k1 k2 k3 0
        refine hK.out _ _ ha.h.x.box (fun hHeld => ?_)
        clear hK K hHeld y0 y1 y2 y3 f0 f1 f2 f3
        try simp only [List.getElem_toArray, List.getElem_cons_succ, List.getElem_cons_zero, Act.put, List.setIfInBounds_toArray, List.set_cons_zero, List.set_cons_succ]
        refine wpAnyH_done (by kernel_rfl) ?_ _
        have v1 : IntKind.i64.wrap (s - k3) = s - k3 := IntWalk.i64_in _ (by omega)
        obtain ⟨x0, x1, x2, x3, _⟩ := ha.h.x.box
        obtain ⟨y0, y1, y2, y3, _⟩ := ha.tm.box
        go_wp2_with fail
        refine (HNA.out _ _ _ _ _ (s - k3) (by omega) (by omega) _ ha).mono ?_
        rintro e w2 ⟨⟨r, rfl, q1, q2⟩, hz⟩
        clear x0 x1 x2 x3 y0 y1 y2 y3
        have v2 : IntKind.i64.wrap (1 + r) = 1 + r := IntWalk.i64_in _ (by omega)
        obtain ⟨x0, x1, x2, x3, _⟩ := hz.h.r.box
        obtain ⟨y0, y1, y2, y3, _⟩ := hz.tm.box
        have f3 := hz.tm.free 3
        have z0 := hz.h.r.free 0
        have z1 := hz.h.r.free 1
        have z2 := hz.h.r.free 2
        have z3 := hz.h.r.free 3
        have hne : w.heap.size + 1 ≠ t := by have := hz.tl; omega
        go_wp2_with fail
        have hf := (hz.last (1 + r)).fin k1 k2 k3 (1 + r) _ rfl
        refine bodyPost_ret (v := .agg #[.int .i64 k1, .int .i64 k2, .int .i64 k3, .int .i64 (1 + r)]) (results_c rfl _ _ _ ⟨w.heap.size + 1, 0, none⟩ _ rfl hf.1) rfl ?_
        obtain ⟨kz, hz2⟩ := hf.2
        exact ⟨_, _, _, _, kz, rfl, ⟨⟨p1, p1b⟩, ⟨p2, p2b⟩, ⟨p3, p3b⟩, by omega, by omega⟩, hz2⟩
      · (try simp only [List.getElem_toArray, List.getElem_cons_succ, List.getElem_cons_zero])
        go_simp
        have ha := hk.alloc
        generalize w1.heap.size = t at ha ⊢
        refine hK.out _ _ ha.h.x.box (fun hHeld => ?_)
        clear hK K hk
        try simp only [List.getElem_toArray, List.getElem_cons_succ, List.getElem_cons_zero, Act.put, List.setIfInBounds_toArray, List.set_cons_zero, List.set_cons_succ]
        refine wpAnyH_ready (rs := [10]) (by kernel_rfl) (by simp) ?_
        refine AllReadyH.cons (o := _) rfl (fun K hK => ?_) AllReadyH.nil
        (try simp only [List.getElem_toArray, List.getElem_cons_succ, List.getElem_cons_zero])
        go_simp
        go_at_call 26
        refine (cN2a.out _ _ ha).mono ?_
        rintro e w1 ⟨⟨k3, rfl, p3, p3b⟩, ha⟩
        go_wp2_with fail
        refine hK.out _ _ (ha.h.x.box) (fun hHeld => ?_)
        clear hK K
        try simp only [List.getElem_toArray, List.getElem_cons_succ, List.getElem_cons_zero, Act.put, List.setIfInBounds_toArray, List.set_cons_zero, List.set_cons_succ]
        (refine wpAnyH_take (i := 11) (oi := _) (v := ?_) rfl (by kernel_rfl) (by kernel_rfl) (by kernel_rfl) (fun _ _ _ h => h) (Or.inl ⟨by rfl, ?_⟩) (by assumption) ?_; rotate_left; (intro wS hSw; obtain ⟨x0, x1, x2, x3, _⟩ := hSw; (try simp only [List.getElem_toArray, List.getElem_cons_succ, List.getElem_cons_zero]); go_simp; (try with_reducible rfl)))
        try simp only [List.getElem_toArray, List.getElem_cons_succ, List.getElem_cons_zero, Act.put, List.setIfInBounds_toArray, List.set_cons_zero, List.set_cons_succ]
        have x := ha.tm.box
        obtain ⟨y0, y1, y2, y3, _⟩ := x
        have f0 := ha.tm.free 0
        have f1 := ha.tm.free 1
        have f2 := ha.tm.free 2
        have f3 := ha.tm.free 3
        refine wpAnyH_ready (rs := [13]) (by kernel_rfl) (by simp) ?_
        refine AllReadyH.cons (o := _) rfl (fun K hK => ?_) AllReadyH.nil
        (try simp only [List.getElem_toArray, List.getElem_cons_succ, List.getElem_cons_zero])
        go_simp
        have ha := ha.store k1 k2 k3 0
        refine hK.out _ _ ha.h.x.box (fun hHeld => ?_)
        clear hK K hHeld y0 y1 y2 y3 f0 f1 f2 f3
        try simp only [List.getElem_toArray, List.getElem_cons_succ, List.getElem_cons_zero, Act.put, List.setIfInBounds_toArray, List.set_cons_zero, List.set_cons_succ]
        refine wpAnyH_done (by kernel_rfl) ?_ _
        have v1 : IntKind.i64.wrap (s - k3) = s - k3 := IntWalk.i64_in _ (by omega)
        obtain ⟨x0, x1, x2, x3, _⟩ := ha.h.x.box
        obtain ⟨y0, y1, y2, y3, _⟩ := ha.tm.box
        go_wp2_with fail
        refine (HNA.out _ _ _ _ _ (s - k3) (by omega) (by omega) _ ha).mono ?_
        rintro e w2 ⟨⟨r, rfl, q1, q2⟩, hz⟩
        clear x0 x1 x2 x3 y0 y1 y2 y3
        have v2 : IntKind.i64.wrap (1 + r) = 1 + r := IntWalk.i64_in _ (by omega)
        obtain ⟨x0, x1, x2, x3, _⟩ := hz.h.r.box
        obtain ⟨y0, y1, y2, y3, _⟩ := hz.tm.box
        have f3 := hz.tm.free 3
        have z0 := hz.h.r.free 0
        have z1 := hz.h.r.free 1
        have z2 := hz.h.r.free 2
        have z3 := hz.h.r.free 3
        have hne : w.heap.size + 1 ≠ t := by have := hz.tl; omega
        go_wp2_with fail
        have hf := (hz.last (1 + r)).fin k1 k2 k3 (1 + r) _ rfl
        refine bodyPost_ret (v := .agg #[.int .i64 k1, .int .i64 k2, .int .i64 k3, .int .i64 (1 + r)]) (results_c rfl _ _ _ ⟨w.heap.size + 1, 0, none⟩ _ rfl hf.1) rfl ?_
        obtain ⟨kz, hz2⟩ := hf.2
        exact ⟨_, _, _, _, kz, rfl, ⟨⟨p1, p1b⟩, ⟨p2, p2b⟩, ⟨p3, p3b⟩, by omega, by omega⟩, hz2⟩
    · (try simp only [List.getElem_toArray, List.getElem_cons_succ, List.getElem_cons_zero])
      go_simp
      have ha := hk.alloc
      generalize w1.heap.size = t at ha ⊢
      refine hK.out _ _ ha.h.x.box (fun hHeld => ?_)
      clear hK K hk
      try simp only [List.getElem_toArray, List.getElem_cons_succ, List.getElem_cons_zero, Act.put, List.setIfInBounds_toArray, List.set_cons_zero, List.set_cons_succ]
      refine wpAnyH_ready (rs := [6]) (by kernel_rfl) (by simp) ?_
      refine AllReadyH.cons (o := _) rfl (fun K hK => ?_) AllReadyH.nil
      (try simp only [List.getElem_toArray, List.getElem_cons_succ, List.getElem_cons_zero])
      go_simp
      go_at_call 26
      refine (cN1a.out _ _ ha).mono ?_
      rintro e w1 ⟨⟨k2, rfl, p2, p2b⟩, ha⟩
      go_wp2_with fail
      refine hK.out _ _ (ha.h.x.box) (fun hHeld => ?_)
      clear hK K
      try simp only [List.getElem_toArray, List.getElem_cons_succ, List.getElem_cons_zero, Act.put, List.setIfInBounds_toArray, List.set_cons_zero, List.set_cons_succ]
      refine wpAnyH_ready (rs := [10]) (by kernel_rfl) (by simp) ?_
      refine AllReadyH.cons (o := _) rfl (fun K hK => ?_) AllReadyH.nil
      (try simp only [List.getElem_toArray, List.getElem_cons_succ, List.getElem_cons_zero])
      go_simp
      go_at_call 26
      refine (cN2a.out _ _ ha).mono ?_
      rintro e w1 ⟨⟨k3, rfl, p3, p3b⟩, ha⟩
      go_wp2_with fail
      refine hK.out _ _ (ha.h.x.box) (fun hHeld => ?_)
      clear hK K
      try simp only [List.getElem_toArray, List.getElem_cons_succ, List.getElem_cons_zero, Act.put, List.setIfInBounds_toArray, List.set_cons_zero, List.set_cons_succ]
      (refine wpAnyH_take (i := 11) (oi := _) (v := ?_) rfl (by kernel_rfl) (by kernel_rfl) (by kernel_rfl) (fun _ _ _ h => h) (Or.inl ⟨by rfl, ?_⟩) (by assumption) ?_; rotate_left; (intro wS hSw; obtain ⟨x0, x1, x2, x3, _⟩ := hSw; (try simp only [List.getElem_toArray, List.getElem_cons_succ, List.getElem_cons_zero]); go_simp; (try with_reducible rfl)))
      try simp only [List.getElem_toArray, List.getElem_cons_succ, List.getElem_cons_zero, Act.put, List.setIfInBounds_toArray, List.set_cons_zero, List.set_cons_succ]
      have x := ha.tm.box
      obtain ⟨y0, y1, y2, y3, _⟩ := x
      have f0 := ha.tm.free 0
      have f1 := ha.tm.free 1
      have f2 := ha.tm.free 2
      have f3 := ha.tm.free 3
      refine wpAnyH_ready (rs := [13]) (by kernel_rfl) (by simp) ?_
      refine AllReadyH.cons (o := _) rfl (fun K hK => ?_) AllReadyH.nil
      (try simp only [List.getElem_toArray, List.getElem_cons_succ, List.getElem_cons_zero])
      go_simp
      have ha := ha.store k1 k2 k3 0
      refine hK.out _ _ ha.h.x.box (fun hHeld => ?_)
      clear hK K hHeld y0 y1 y2 y3 f0 f1 f2 f3
      try simp only [List.getElem_toArray, List.getElem_cons_succ, List.getElem_cons_zero, Act.put, List.setIfInBounds_toArray, List.set_cons_zero, List.set_cons_succ]
      refine wpAnyH_done (by kernel_rfl) ?_ _
      have v1 : IntKind.i64.wrap (s - k3) = s - k3 := IntWalk.i64_in _ (by omega)
      obtain ⟨x0, x1, x2, x3, _⟩ := ha.h.x.box
      obtain ⟨y0, y1, y2, y3, _⟩ := ha.tm.box
      go_wp2_with fail
      refine (HNA.out _ _ _ _ _ (s - k3) (by omega) (by omega) _ ha).mono ?_
      rintro e w2 ⟨⟨r, rfl, q1, q2⟩, hz⟩
      clear x0 x1 x2 x3 y0 y1 y2 y3
      have v2 : IntKind.i64.wrap (1 + r) = 1 + r := IntWalk.i64_in _ (by omega)
      obtain ⟨x0, x1, x2, x3, _⟩ := hz.h.r.box
      obtain ⟨y0, y1, y2, y3, _⟩ := hz.tm.box
      have f3 := hz.tm.free 3
      have z0 := hz.h.r.free 0
      have z1 := hz.h.r.free 1
      have z2 := hz.h.r.free 2
      have z3 := hz.h.r.free 3
      have hne : w.heap.size + 1 ≠ t := by have := hz.tl; omega
      go_wp2_with fail
      have hf := (hz.last (1 + r)).fin k1 k2 k3 (1 + r) _ rfl
      refine bodyPost_ret (v := .agg #[.int .i64 k1, .int .i64 k2, .int .i64 k3, .int .i64 (1 + r)]) (results_c rfl _ _ _ ⟨w.heap.size + 1, 0, none⟩ _ rfl hf.1) rfl ?_
      obtain ⟨kz, hz2⟩ := hf.2
      exact ⟨_, _, _, _, kz, rfl, ⟨⟨p1, p1b⟩, ⟨p2, p2b⟩, ⟨p3, p3b⟩, by omega, by omega⟩, hz2⟩
  · (try simp only [List.getElem_toArray, List.getElem_cons_succ, List.getElem_cons_zero])
    go_simp
    have ha := hk.alloc
    generalize w1.heap.size = t at ha ⊢
    refine hK.out _ _ ha.h.x.box (fun hHeld => ?_)
    clear hK K hk
    try simp only [List.getElem_toArray, List.getElem_cons_succ, List.getElem_cons_zero, Act.put, List.setIfInBounds_toArray, List.set_cons_zero, List.set_cons_succ]
    refine wpAnyH_ready (rs := [2]) (by kernel_rfl) (by simp) ?_
    refine AllReadyH.cons (o := _) rfl (fun K hK => ?_) AllReadyH.nil
    (try simp only [List.getElem_toArray, List.getElem_cons_succ, List.getElem_cons_zero])
    go_simp
    go_at_call 94
    refine (cSa.out _ _ ha).mono ?_
    rintro e w1 ⟨⟨k1, rfl, p1, p1b⟩, ha⟩
    go_wp2_with fail
    refine hK.out _ _ (ha.h.x.box) (fun hHeld => ?_)
    clear hK K
    try simp only [List.getElem_toArray, List.getElem_cons_succ, List.getElem_cons_zero, Act.put, List.setIfInBounds_toArray, List.set_cons_zero, List.set_cons_succ]
    refine wpAnyH_ready (rs := [6]) (by kernel_rfl) (by simp) ?_
    refine AllReadyH.cons (o := _) rfl (fun K hK => ?_) AllReadyH.nil
    (try simp only [List.getElem_toArray, List.getElem_cons_succ, List.getElem_cons_zero])
    go_simp
    go_at_call 26
    refine (cN1a.out _ _ ha).mono ?_
    rintro e w1 ⟨⟨k2, rfl, p2, p2b⟩, ha⟩
    go_wp2_with fail
    refine hK.out _ _ (ha.h.x.box) (fun hHeld => ?_)
    clear hK K
    try simp only [List.getElem_toArray, List.getElem_cons_succ, List.getElem_cons_zero, Act.put, List.setIfInBounds_toArray, List.set_cons_zero, List.set_cons_succ]
    refine wpAnyH_ready (rs := [10]) (by kernel_rfl) (by simp) ?_
    refine AllReadyH.cons (o := _) rfl (fun K hK => ?_) AllReadyH.nil
    (try simp only [List.getElem_toArray, List.getElem_cons_succ, List.getElem_cons_zero])
    go_simp
    go_at_call 26
    refine (cN2a.out _ _ ha).mono ?_
    rintro e w1 ⟨⟨k3, rfl, p3, p3b⟩, ha⟩
    go_wp2_with fail
    refine hK.out _ _ (ha.h.x.box) (fun hHeld => ?_)
    clear hK K
    try simp only [List.getElem_toArray, List.getElem_cons_succ, List.getElem_cons_zero, Act.put, List.setIfInBounds_toArray, List.set_cons_zero, List.set_cons_succ]
    (refine wpAnyH_take (i := 11) (oi := _) (v := ?_) rfl (by kernel_rfl) (by kernel_rfl) (by kernel_rfl) (fun _ _ _ h => h) (Or.inl ⟨by rfl, ?_⟩) (by assumption) ?_; rotate_left; (intro wS hSw; obtain ⟨x0, x1, x2, x3, _⟩ := hSw; (try simp only [List.getElem_toArray, List.getElem_cons_succ, List.getElem_cons_zero]); go_simp; (try with_reducible rfl)))
    try simp only [List.getElem_toArray, List.getElem_cons_succ, List.getElem_cons_zero, Act.put, List.setIfInBounds_toArray, List.set_cons_zero, List.set_cons_succ]
    have x := ha.tm.box
    obtain ⟨y0, y1, y2, y3, _⟩ := x
    have f0 := ha.tm.free 0
    have f1 := ha.tm.free 1
    have f2 := ha.tm.free 2
    have f3 := ha.tm.free 3
    refine wpAnyH_ready (rs := [13]) (by kernel_rfl) (by simp) ?_
    refine AllReadyH.cons (o := _) rfl (fun K hK => ?_) AllReadyH.nil
    (try simp only [List.getElem_toArray, List.getElem_cons_succ, List.getElem_cons_zero])
    go_simp
    have ha := ha.store k1 k2 k3 0
    refine hK.out _ _ ha.h.x.box (fun hHeld => ?_)
    clear hK K hHeld y0 y1 y2 y3 f0 f1 f2 f3
    try simp only [List.getElem_toArray, List.getElem_cons_succ, List.getElem_cons_zero, Act.put, List.setIfInBounds_toArray, List.set_cons_zero, List.set_cons_succ]
    refine wpAnyH_done (by kernel_rfl) ?_ _
    have v1 : IntKind.i64.wrap (s - k3) = s - k3 := IntWalk.i64_in _ (by omega)
    obtain ⟨x0, x1, x2, x3, _⟩ := ha.h.x.box
    obtain ⟨y0, y1, y2, y3, _⟩ := ha.tm.box
    go_wp2_with fail
    refine (HNA.out _ _ _ _ _ (s - k3) (by omega) (by omega) _ ha).mono ?_
    rintro e w2 ⟨⟨r, rfl, q1, q2⟩, hz⟩
    clear x0 x1 x2 x3 y0 y1 y2 y3
    have v2 : IntKind.i64.wrap (1 + r) = 1 + r := IntWalk.i64_in _ (by omega)
    obtain ⟨x0, x1, x2, x3, _⟩ := hz.h.r.box
    obtain ⟨y0, y1, y2, y3, _⟩ := hz.tm.box
    have f3 := hz.tm.free 3
    have z0 := hz.h.r.free 0
    have z1 := hz.h.r.free 1
    have z2 := hz.h.r.free 2
    have z3 := hz.h.r.free 3
    have hne : w.heap.size + 1 ≠ t := by have := hz.tl; omega
    go_wp2_with fail
    have hf := (hz.last (1 + r)).fin k1 k2 k3 (1 + r) _ rfl
    refine bodyPost_ret (v := .agg #[.int .i64 k1, .int .i64 k2, .int .i64 k3, .int .i64 (1 + r)]) (results_c rfl _ _ _ ⟨w.heap.size + 1, 0, none⟩ _ rfl hf.1) rfl ?_
    obtain ⟨kz, hz2⟩ := hf.2
    exact ⟨_, _, _, _, kz, rfl, ⟨⟨p1, p1b⟩, ⟨p2, p2b⟩, ⟨p3, p3b⟩, by omega, by omega⟩, hz2⟩
end Go.Proofs.YtigdcgklpapfbaaGreatDoor

set_option linter.unusedVariables false
namespace Go.Proofs.YtigdcgklpapfbaaGreatDoor
open Go Go.Proofs Go.RowKit Go.Lib

theorem Cells4.played {T : TypeId} {w w' : World} {B g : Nat} {a b x d : Int} (h : Cells4 T w B a b x d) (p : Played w.heap.size g w w') (hB : B ≠ g) : Cells4 T w' B a b x d := (p.block _ h.lt hB).trans h
/-- A made grid is valid, a made time fits it. -/
theorem made_grid {d s b m : Int} (h : MadeG d s b m) : GridP d s b m := by
  obtain ⟨h1, h2, h3, h4⟩ := h
  have hm : s * m ≤ 8 * 60 := Int.mul_le_mul (by omega) (by omega) (by omega) (by omega)
  exact ⟨by omega, by omega, by omega, by omega, by omega⟩
theorem made_frame {d s b m : Int} {n : Nat} (h : MadeG d s b m) (h1 : 1 ≤ n) (h2 : n ≤ 20) : frameB d s b m n = true :=
  decide_eq_true ⟨decide_eq_true (made_grid h), by omega, by omega⟩
theorem mvalid {n : Nat} {k : Int} (h1 : 1 ≤ n) (h2 : n ≤ 20) (hk : 1 ≤ k) (hk2 : k < 2 ^ n) : validM k n = true := validM_yes h1 h2 hk hk2
theorem pow_mono {a b : Nat} (h : a ≤ b) : (2 : Int) ^ a ≤ 2 ^ b := by
  have := pow_le h
  have e : (2 : Int) ^ a = ((2 ^ a : Nat) : Int) := by rw [Int.natCast_pow]; rfl
  have e2 : (2 : Int) ^ b = ((2 ^ b : Nat) : Int) := by rw [Int.natCast_pow]; rfl
  omega
theorem made_sound {d s b m k y t l : Int} {n : Nat} (h : MadeG d s b m) (h1 : 1 ≤ n) (h2 : n ≤ 20) (ht : MadeT d s n k y t l) : soundB k y t l = true := by
  obtain ⟨g1, g2, g3, g4⟩ := h
  obtain ⟨t1, t2, t3, t4, t5⟩ := ht
  have := pow_mono h2
  exact decide_eq_true ⟨validM_yes (n := 20) (by omega) (by omega) t1.1 (by omega), by omega, by omega, by omega, by omega⟩
theorem made_fits {d s b m k y t l : Int} {n : Nat} (h : MadeG d s b m) (h1 : 1 ≤ n) (h2 : n ≤ 20) (ht : MadeT d s n k y t l) : fitsM d s b m n k y t l = 0 := by
  unfold fitsM
  rw [if_pos (made_frame h h1 h2), if_pos ⟨made_sound h h1 h2 ht, mvalid h1 h2 ht.1.1 ht.1.2, ht.2.1.2, ht.2.2.2.2⟩]

end Go.Proofs.YtigdcgklpapfbaaGreatDoor
