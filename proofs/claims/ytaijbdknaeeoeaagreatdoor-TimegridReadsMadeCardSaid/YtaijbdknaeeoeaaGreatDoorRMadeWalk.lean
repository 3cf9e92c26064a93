/-
  The walk of TimegridReadsMade. Conditions: the numbers lie in memory as a slice of ints; the variables hold what their text lays.
-/
import Derived.Test.YtaijbdknaeeoeaaGreatDoorM1
import Derived.Test.YtaijbdknaeeoeaaGreatDoorM2
import Derived.Test.YtaijbdknaeeoeaaGreatDoorTReturnsWalk
import Derived.Test.YtaijbdknaeeoeaaGreatDoorReadsWalk
import Derived.Test.YtaijbdknaeeoeaaGreatDoorSpoil
import Derived.Deep.RegionLaw
set_option linter.unusedVariables false
namespace Go.Proofs.YtaijbdknaeeoeaaGreatDoor
open Go Go.Proofs Go.RowKit Go.Lib

def Small4 (a b x d : Int) : Prop := (-4611686018427387904 ≤ a ∧ a ≤ 4611686018427387904) ∧ (-4611686018427387904 ≤ b ∧ b ≤ 4611686018427387904) ∧ (-4611686018427387904 ≤ x ∧ x ≤ 4611686018427387904) ∧ (-4611686018427387904 ≤ d ∧ d ≤ 4611686018427387904)
/-- The box, the result's block, the dice. -/
structure OK (T : TypeId) (w0 : World) (g c : Nat) (A : Option Addr) (L : List Int) (a b x d : Int) (k : Nat) (w : World) : Prop where
  e : DE w0 g c A L k w
  z : Cells4 T w w0.heap.size a b x d
  o : Cells4 T w (w0.heap.size + 1) 0 0 0 0
  g0 : g < w0.heap.size
section
variable {T : TypeId} {w0 w w' : World} {g c k k' : Nat} {A : Option Addr} {L : List Int} {a b x d : Int}
theorem OK.below (h : OK T w0 g c A L a b x d k w) (hb : Below w.heap.size w w') : OK T w0 g c A L a b x d k w' := ⟨h.e.below (hb.mono h.e.p.size) h.g0, h.z.under hb, h.o.under hb, h.g0⟩
theorem OK.roll (h : OK T w0 g c A L a b x d k w) (hd : DiceAt w' g A L c k') (hr : Rolled g w w') : OK T w0 g c A L a b x d k' w' := by
  have := h.g0
  exact ⟨h.e.next hd hr, h.z.roll hr (by omega), h.o.roll hr (by omega), h.g0⟩
theorem OK.set0 (h : OK T w0 g c A L a b x d k w) (v : Int) : OK T w0 g c A L v b x d k (w.setCell ⟨w0.heap.size, 0, none⟩ (.int .i64 v)) := ⟨h.e.set _ _ _ (Nat.le_refl _) h.g0, h.z.set0 v, h.o.other _ _ _ (by omega), h.g0⟩
theorem OK.set1 (h : OK T w0 g c A L a b x d k w) (v : Int) : OK T w0 g c A L a v x d k (w.setCell ⟨w0.heap.size, 1, none⟩ (.int .i64 v)) := ⟨h.e.set _ _ _ (Nat.le_refl _) h.g0, h.z.set1 v, h.o.other _ _ _ (by omega), h.g0⟩
theorem OK.set2 (h : OK T w0 g c A L a b x d k w) (v : Int) : OK T w0 g c A L a b v d k (w.setCell ⟨w0.heap.size, 2, none⟩ (.int .i64 v)) := ⟨h.e.set _ _ _ (Nat.le_refl _) h.g0, h.z.set2 v, h.o.other _ _ _ (by omega), h.g0⟩
theorem OK.set3 (h : OK T w0 g c A L a b x d k w) (v : Int) : OK T w0 g c A L a b x v k (w.setCell ⟨w0.heap.size, 3, none⟩ (.int .i64 v)) := ⟨h.e.set _ _ _ (Nat.le_refl _) h.g0, h.z.set3 v, h.o.other _ _ _ (by omega), h.g0⟩
theorem OK.fin (h : OK T w0 g c A L a b x d k w) (W : World) (hW : W = ((((w.setCell ⟨w0.heap.size + 1, 0, none⟩ (.int .i64 a)).setCell ⟨w0.heap.size + 1, 1, none⟩ (.int .i64 b)).setCell ⟨w0.heap.size + 1, 2, none⟩ (.int .i64 x)).setCell ⟨w0.heap.size + 1, 3, none⟩ (.int .i64 d))) :
    Cells4 T W (w0.heap.size + 1) a b x d ∧ DE w0 g c A L k W := by
  subst hW
  have := h.g0
  exact ⟨h.o.all _ _ _ _, (((h.e.set _ _ _ (by omega) (by omega)).set _ _ _ (by omega) (by omega)).set _ _ _ (by omega) (by omega)).set _ _ _ (by omega) (by omega)⟩
end
theorem OK.first {w : World} {g c k : Nat} {A : Option Addr} {L : List Int} (h : DiceAt w g A L c k) (a b x d : Int) (T : TypeId) :
    OK T w g c A L a b x d k ((w.alloc (.cells #[.int .i64 a, .int .i64 b, .int .i64 x, .int .i64 d] T)).alloc (.cells #[.int .i64 0, .int .i64 0, .int .i64 0, .int .i64 0] T)) := by
  have h1 := Cells4.new w a b x d T
  have he := (DE.first h).alloc (.cells #[.int .i64 a, .int .i64 b, .int .i64 x, .int .i64 d] T)
  have hs : (w.alloc (.cells #[.int .i64 a, .int .i64 b, .int .i64 x, .int .i64 d] T)).heap.size = w.heap.size + 1 := by simp
  generalize w.alloc (.cells #[.int .i64 a, .int .i64 b, .int .i64 x, .int .i64 d] T) = w1 at h1 he hs ⊢
  have h2 := Cells4.new w1 0 0 0 0 T
  rw [hs] at h2
  exact ⟨he.alloc _, h1.under ((Below.refl _ w1).alloc (Nat.le_refl _) _), h2, h.lt⟩
def oddGridTab1 : List Int := [0, 24, 25, -1]
theorem oddGridTab1_bd (m : Nat) (hm : m < 4) : -4611686018427387904 ≤ oddGridTab1.getD m 0 ∧ oddGridTab1.getD m 0 ≤ 4611686018427387904 := by
  rcases (show m = 0 ∨ m = 1 ∨ m = 2 ∨ m = 3 by omega) with e | e | e | e
  all_goals (subst e; decide)
def oddGridTab2 : List Int := [-1, 0, 1439, 1440]
theorem oddGridTab2_bd (m : Nat) (hm : m < 4) : -4611686018427387904 ≤ oddGridTab2.getD m 0 ∧ oddGridTab2.getD m 0 ≤ 4611686018427387904 := by
  rcases (show m = 0 ∨ m = 1 ∨ m = 2 ∨ m = 3 by omega) with e | e | e | e
  all_goals (subst e; decide)
def oddGridTab3 : List Int := [4, 5, 120, 121]
theorem oddGridTab3_bd (m : Nat) (hm : m < 4) : -4611686018427387904 ≤ oddGridTab3.getD m 0 ∧ oddGridTab3.getD m 0 ≤ 4611686018427387904 := by
  rcases (show m = 0 ∨ m = 1 ∨ m = 2 ∨ m = 3 by omega) with e | e | e | e
  all_goals (subst e; decide)
set_option maxHeartbeats 8000000 in
set_option maxRecDepth 100000 in
theorem oddGrid_any (g c k : Nat) (A : Option Addr) (L : List Int) (a b x d : Int) (hs : Small4 a b x d) (w : World) (h : DiceAt w g A L c k) :
    Calls Tryz.prog 19 #[.pointer (some ⟨g, 0, none⟩), .agg #[.int .i64 a, .int .i64 b, .int .i64 x, .int .i64 d]] w (FourP Small4 g c A L w) := by
  obtain ⟨s0, s1, s2, s3⟩ := hs
  have HN := hid (fun (W : World) k n hn (h : DiceAt W g A L c k) => next_at g c k A L n hn W h)
  have HOK := hid (OK.first h a b x d 23)
  clear h
  go_enter Tryz.func19, Tryz.ntmps19
  go_wp2_with fail
  generalize (w.alloc (.cells #[.int .i64 a, .int .i64 b, .int .i64 x, .int .i64 d] 23)).alloc (.cells #[.int .i64 0, .int .i64 0, .int .i64 0, .int .i64 0] 23) = w1 at HOK ⊢
  refine (HN.out _ _ _ (by omega) HOK.out.e.d).mono ?_
  rintro e w2 ⟨rfl, hd2, hR2⟩
  obtain ⟨r, hr⟩ : ∃ r, rollV L k 4 = r := ⟨_, rfl⟩
  rw [hr]
  have HK := hid (HOK.out.roll hd2 hR2)
  generalize rollK L k = k2 at HK
  clear hr hd2 hR2 HOK
  by_cases e0 : r = 0
  · subst e0
    go_wp2_with fail
    refine (HN.out _ _ _ (by omega) HK.out.e.d).mono ?_
    rintro e w4 ⟨rfl, hd4, hR4⟩
    obtain ⟨q, hq⟩ : ∃ q, rollV L k2 10 = q := ⟨_, rfl⟩
    have hqq := rollV_range L k2 10 (by omega)
    rw [hq] at hqq ⊢
    have HK4 := hid (HK.out.roll hd4 hR4)
    generalize rollK L k2 = k4 at HK4
    have v1 : IntKind.i64.wrap (q - 1) = q - 1 := IntWalk.i64_in _ (by omega)
    clear hq hd4 hR4 HK
    obtain ⟨z0, z1, z2, z3, _⟩ := HK4.out.z.box
    obtain ⟨o0, o1, o2, o3, _⟩ := HK4.out.o.box
    have f0 := HK4.out.z.free 0
    have p0 := HK4.out.o.free 0
    have f1 := HK4.out.z.free 1
    have p1 := HK4.out.o.free 1
    have f2 := HK4.out.z.free 2
    have p2 := HK4.out.o.free 2
    have f3 := HK4.out.z.free 3
    have p3 := HK4.out.o.free 3
    go_wp2_with fail
    have hf := (HK4.out.set0 (q - 1)).fin _ rfl
    refine bodyPost_ret (v := .agg #[.int .i64 (q - 1), .int .i64 (b), .int .i64 (x), .int .i64 (d)]) (results_c rfl _ _ _ ⟨w.heap.size + 1, 0, none⟩ _ rfl (load_grid hf.1)) rfl ?_
    exact ⟨_, _, _, _, _, rfl, ⟨by omega, by omega, by omega, by omega⟩, hf.2⟩
  · have e0' : (r == 0) = false := by simpa using e0
    by_cases e1 : r = 1
    · subst e1
      have HK3 := hid (HK.out.below ((Below.refl _ w2).alloc (Nat.le_refl _) (.cells #[.int .i64 0, .int .i64 24, .int .i64 25, .int .i64 (-1)] 3)))
      have HN3 := hid (heap_alloc_new w2 (.cells #[.int .i64 0, .int .i64 24, .int .i64 25, .int .i64 (-1)] 3))
      have hge := HK.out.o.lt
      go_wp2_with fail
      generalize w2.alloc (.cells #[.int .i64 0, .int .i64 24, .int .i64 25, .int .i64 (-1)] 3) = w3 at HK3 HN3 ⊢
      refine (HN.out _ _ _ (by omega) HK3.out.e.d).mono ?_
      rintro e w4 ⟨rfl, hd4, hR4⟩
      obtain ⟨q, hq⟩ : ∃ q, rollV L k2 4 = q := ⟨_, rfl⟩
      have hqq := rollV_range L k2 4 (by omega)
      rw [hq] at hqq ⊢
      have HK4 := hid (HK3.out.roll hd4 hR4)
      have hgg := HK.out.g0
      have hN4 := (hR4.block w2.heap.size (by omega)).trans HN3.out
      generalize rollK L k2 = k4 at HK4
      obtain ⟨m, rfl⟩ : ∃ m : Nat, q = (m : Int) := ⟨q.toNat, by omega⟩
      have hc : w4.cell? ⟨w2.heap.size, m, none⟩ = some (.int .i64 (oddGridTab1.getD m 0)) := by
        rw [Lib.cell_of_heap hN4]
        rcases (show m = 0 ∨ m = 1 ∨ m = 2 ∨ m = 3 by omega) with e | e | e | e <;> subst e <;> rfl
      have hvb := oddGridTab1_bd m (by omega)
      generalize oddGridTab1.getD m 0 = V at hc hvb
      clear hq hd4 hR4 HK3 HN3 hN4 HK
      obtain ⟨z0, z1, z2, z3, _⟩ := HK4.out.z.box
      obtain ⟨o0, o1, o2, o3, _⟩ := HK4.out.o.box
      have f0 := HK4.out.z.free 0
      have p0 := HK4.out.o.free 0
      have f1 := HK4.out.z.free 1
      have p1 := HK4.out.o.free 1
      have f2 := HK4.out.z.free 2
      have p2 := HK4.out.o.free 2
      have f3 := HK4.out.z.free 3
      have p3 := HK4.out.o.free 3
      go_wp2_with fail
      have hf := (HK4.out.set1 (V)).fin _ rfl
      refine bodyPost_ret (v := .agg #[.int .i64 (a), .int .i64 (V), .int .i64 (x), .int .i64 (d)]) (results_c rfl _ _ _ ⟨w.heap.size + 1, 0, none⟩ _ rfl (load_grid hf.1)) rfl ?_
      exact ⟨_, _, _, _, _, rfl, ⟨by omega, by omega, by omega, by omega⟩, hf.2⟩
    · have e1' : (r == 1) = false := by simpa using e1
      by_cases e2 : r = 2
      · subst e2
        have HK3 := hid (HK.out.below ((Below.refl _ w2).alloc (Nat.le_refl _) (.cells #[.int .i64 (-1), .int .i64 0, .int .i64 1439, .int .i64 1440] 3)))
        have HN3 := hid (heap_alloc_new w2 (.cells #[.int .i64 (-1), .int .i64 0, .int .i64 1439, .int .i64 1440] 3))
        have hge := HK.out.o.lt
        go_wp2_with fail
        generalize w2.alloc (.cells #[.int .i64 (-1), .int .i64 0, .int .i64 1439, .int .i64 1440] 3) = w3 at HK3 HN3 ⊢
        refine (HN.out _ _ _ (by omega) HK3.out.e.d).mono ?_
        rintro e w4 ⟨rfl, hd4, hR4⟩
        obtain ⟨q, hq⟩ : ∃ q, rollV L k2 4 = q := ⟨_, rfl⟩
        have hqq := rollV_range L k2 4 (by omega)
        rw [hq] at hqq ⊢
        have HK4 := hid (HK3.out.roll hd4 hR4)
        have hgg := HK.out.g0
        have hN4 := (hR4.block w2.heap.size (by omega)).trans HN3.out
        generalize rollK L k2 = k4 at HK4
        obtain ⟨m, rfl⟩ : ∃ m : Nat, q = (m : Int) := ⟨q.toNat, by omega⟩
        have hc : w4.cell? ⟨w2.heap.size, m, none⟩ = some (.int .i64 (oddGridTab2.getD m 0)) := by
          rw [Lib.cell_of_heap hN4]
          rcases (show m = 0 ∨ m = 1 ∨ m = 2 ∨ m = 3 by omega) with e | e | e | e <;> subst e <;> rfl
        have hvb := oddGridTab2_bd m (by omega)
        generalize oddGridTab2.getD m 0 = V at hc hvb
        clear hq hd4 hR4 HK3 HN3 hN4 HK
        obtain ⟨z0, z1, z2, z3, _⟩ := HK4.out.z.box
        obtain ⟨o0, o1, o2, o3, _⟩ := HK4.out.o.box
        have f0 := HK4.out.z.free 0
        have p0 := HK4.out.o.free 0
        have f1 := HK4.out.z.free 1
        have p1 := HK4.out.o.free 1
        have f2 := HK4.out.z.free 2
        have p2 := HK4.out.o.free 2
        have f3 := HK4.out.z.free 3
        have p3 := HK4.out.o.free 3
        go_wp2_with fail
        have hf := (HK4.out.set2 (V)).fin _ rfl
        refine bodyPost_ret (v := .agg #[.int .i64 (a), .int .i64 (b), .int .i64 (V), .int .i64 (d)]) (results_c rfl _ _ _ ⟨w.heap.size + 1, 0, none⟩ _ rfl (load_grid hf.1)) rfl ?_
        exact ⟨_, _, _, _, _, rfl, ⟨by omega, by omega, by omega, by omega⟩, hf.2⟩
      · have e2' : (r == 2) = false := by simpa using e2
        have HK3 := hid (HK.out.below ((Below.refl _ w2).alloc (Nat.le_refl _) (.cells #[.int .i64 4, .int .i64 5, .int .i64 120, .int .i64 121] 3)))
        have HN3 := hid (heap_alloc_new w2 (.cells #[.int .i64 4, .int .i64 5, .int .i64 120, .int .i64 121] 3))
        have hge := HK.out.o.lt
        go_wp2_with fail
        generalize w2.alloc (.cells #[.int .i64 4, .int .i64 5, .int .i64 120, .int .i64 121] 3) = w3 at HK3 HN3 ⊢
        refine (HN.out _ _ _ (by omega) HK3.out.e.d).mono ?_
        rintro e w4 ⟨rfl, hd4, hR4⟩
        obtain ⟨q, hq⟩ : ∃ q, rollV L k2 4 = q := ⟨_, rfl⟩
        have hqq := rollV_range L k2 4 (by omega)
        rw [hq] at hqq ⊢
        have HK4 := hid (HK3.out.roll hd4 hR4)
        have hgg := HK.out.g0
        have hN4 := (hR4.block w2.heap.size (by omega)).trans HN3.out
        generalize rollK L k2 = k4 at HK4
        obtain ⟨m, rfl⟩ : ∃ m : Nat, q = (m : Int) := ⟨q.toNat, by omega⟩
        have hc : w4.cell? ⟨w2.heap.size, m, none⟩ = some (.int .i64 (oddGridTab3.getD m 0)) := by
          rw [Lib.cell_of_heap hN4]
          rcases (show m = 0 ∨ m = 1 ∨ m = 2 ∨ m = 3 by omega) with e | e | e | e <;> subst e <;> rfl
        have hvb := oddGridTab3_bd m (by omega)
        generalize oddGridTab3.getD m 0 = V at hc hvb
        clear hq hd4 hR4 HK3 HN3 hN4 HK
        obtain ⟨z0, z1, z2, z3, _⟩ := HK4.out.z.box
        obtain ⟨o0, o1, o2, o3, _⟩ := HK4.out.o.box
        have f0 := HK4.out.z.free 0
        have p0 := HK4.out.o.free 0
        have f1 := HK4.out.z.free 1
        have p1 := HK4.out.o.free 1
        have f2 := HK4.out.z.free 2
        have p2 := HK4.out.o.free 2
        have f3 := HK4.out.z.free 3
        have p3 := HK4.out.o.free 3
        go_wp2_with fail
        have hf := (HK4.out.set3 (V)).fin _ rfl
        refine bodyPost_ret (v := .agg #[.int .i64 (a), .int .i64 (b), .int .i64 (x), .int .i64 (V)]) (results_c rfl _ _ _ ⟨w.heap.size + 1, 0, none⟩ _ rfl (load_grid hf.1)) rfl ?_
        exact ⟨_, _, _, _, _, rfl, ⟨by omega, by omega, by omega, by omega⟩, hf.2⟩
end Go.Proofs.YtaijbdknaeeoeaaGreatDoor
set_option linter.unusedVariables false
namespace Go.Proofs.YtaijbdknaeeoeaaGreatDoor
open Go Go.Proofs Go.RowKit Go.Lib

abbrev Q4 := Int × Int × Int × Int
def TimeIs (w : World) (o : Option (Nat × Q4)) (lo : Nat) : Prop := ∀ t k y u l, o = some (t, k, y, u, l) → Cells4 25 w t k y u l ∧ lo ≤ t
structure RS (w1 : World) (g c : Nat) (A : Option Addr) (L : List Int) (tg : Nat) (d s b m : Int) (oa ob : Option (Nat × Q4)) (w : World) : Prop where
  e : ∃ k, DE w1 g c A L k w
  x : Cells4 23 w tg d s b m
  a : TimeIs w oa w1.heap.size
  b : TimeIs w ob w1.heap.size
  ne : ∀ ta qa tb qb, oa = some (ta, qa) → ob = some (tb, qb) → ta ≠ tb
  na : ∀ ta qa, oa = some (ta, qa) → ta ≠ tg
  nb : ∀ tb qb, ob = some (tb, qb) → tb ≠ tg
  gl : g < w1.heap.size
  tl : w1.heap.size ≤ tg
section
variable {w1 w w' : World} {g c : Nat} {A : Option Addr} {L : List Int} {tg : Nat} {d s b m : Int} {oa ob : Option (Nat × Q4)}
theorem RS.de {k : Nat} (h : RS w1 g c A L tg d s b m oa ob w) (he : DE w g c A L k w') : RS w1 g c A L tg d s b m oa ob w' := by
  obtain ⟨k0, h0⟩ := h.e
  have hg := h.gl
  have ht := h.tl
  exact ⟨⟨k, h0.trans he⟩, h.x.played he.p (by omega), fun t k y u l ho => ⟨(h.a t k y u l ho).1.played he.p (by have := (h.a t k y u l ho).2; omega), (h.a t k y u l ho).2⟩,
    fun t k y u l ho => ⟨(h.b t k y u l ho).1.played he.p (by have := (h.b t k y u l ho).2; omega), (h.b t k y u l ho).2⟩, h.ne, h.na, h.nb, h.gl, h.tl⟩
theorem RS.roll (h : RS w1 g c A L tg d s b m oa ob w) (hd : ∃ k, DiceAt w' g A L c k) (hr : Rolled g w w') : RS w1 g c A L tg d s b m oa ob w' := by
  obtain ⟨k, hd⟩ := hd
  obtain ⟨k0, h0⟩ := h.e
  exact h.de ((DE.first h0.d).next hd hr)
theorem RS.below (h : RS w1 g c A L tg d s b m oa ob w) (hb : Below w.heap.size w w') : RS w1 g c A L tg d s b m oa ob w' := by
  obtain ⟨k0, h0⟩ := h.e
  exact h.de ((DE.first h0.d).below hb (h0.d.lt))
theorem RS.drew (h : RS w1 g c A L tg d s b m oa ob w) : RS w1 g c A L tg d s b m oa ob w.drew := h.below (Below.refl _ w).drew
theorem RS.allocA (h : RS w1 g c A L tg d s b m none ob w) (k y u l : Int) : RS w1 g c A L tg d s b m (some (w.heap.size, k, y, u, l)) ob (w.alloc (.cells #[.int .i64 k, .int .i64 y, .int .i64 u, .int .i64 l] 25)) := by
  have h' := h.below ((Below.refl _ w).alloc (Nat.le_refl _) (.cells #[.int .i64 k, .int .i64 y, .int .i64 u, .int .i64 l] 25))
  obtain ⟨k0, h0⟩ := h.e
  refine ⟨h'.e, h'.x, ?_, h'.b, ?_, ?_, h'.nb, h'.gl, h'.tl⟩
  · intro t k2 y2 u2 l2 ho
    injection ho with ho
    injection ho with h1 ho
    injection ho with h2 ho
    injection ho with h3 ho
    injection ho with h4 h5
    subst h1 h2 h3 h4 h5
    exact ⟨Cells4.new w k y u l _, h0.p.size⟩
  · intro ta qa tb qb ho ho2
    injection ho with ho
    injection ho with h1 ho
    obtain ⟨b1, b2, b3, b4⟩ := qb
    have := (h.b _ _ _ _ _ ho2).1.lt
    omega
  · intro ta qa ho
    injection ho with ho
    injection ho with h1 ho
    have := h.x.lt
    omega
theorem RS.allocB (h : RS w1 g c A L tg d s b m oa none w) (k y u l : Int) : RS w1 g c A L tg d s b m oa (some (w.heap.size, k, y, u, l)) (w.alloc (.cells #[.int .i64 k, .int .i64 y, .int .i64 u, .int .i64 l] 25)) := by
  have h' := h.below ((Below.refl _ w).alloc (Nat.le_refl _) (.cells #[.int .i64 k, .int .i64 y, .int .i64 u, .int .i64 l] 25))
  obtain ⟨k0, h0⟩ := h.e
  refine ⟨h'.e, h'.x, h'.a, ?_, ?_, h'.na, ?_, h'.gl, h'.tl⟩
  · intro t k2 y2 u2 l2 ho
    injection ho with ho
    injection ho with h1 ho
    injection ho with h2 ho
    injection ho with h3 ho
    injection ho with h4 h5
    subst h1 h2 h3 h4 h5
    exact ⟨Cells4.new w k y u l _, h0.p.size⟩
  · intro ta qa tb qb ho2 ho
    injection ho with ho
    injection ho with h1 ho
    obtain ⟨b1, b2, b3, b4⟩ := qa
    have := (h.a _ _ _ _ _ ho2).1.lt
    omega
  · intro ta qa ho
    injection ho with ho
    injection ho with h1 ho
    have := h.x.lt
    omega
end
/-- Four stores into a block. -/
def put4 (w : World) (t : Nat) (v0 v1 v2 v3 : Int) : World := (((w.setCell ⟨t, 0, none⟩ (.int .i64 v0)).setCell ⟨t, 1, none⟩ (.int .i64 v1)).setCell ⟨t, 2, none⟩ (.int .i64 v2)).setCell ⟨t, 3, none⟩ (.int .i64 v3)
theorem put4_other {T : TypeId} {w : World} {B t : Nat} {a b x d : Int} (h : Cells4 T w B a b x d) (hB : B ≠ t) (v0 v1 v2 v3 : Int) : Cells4 T (put4 w t v0 v1 v2 v3) B a b x d :=
  (((h.other t 0 _ hB).other t 1 _ hB).other t 2 _ hB).other t 3 _ hB
theorem put4_de {w0 w : World} {g c k t : Nat} {A : Option Addr} {L : List Int} (h : DE w0 g c A L k w) (ht : w0.heap.size ≤ t) (hg : g < t) (v0 v1 v2 v3 : Int) : DE w0 g c A L k (put4 w t v0 v1 v2 v3) :=
  (((h.set t 0 _ ht hg).set t 1 _ ht hg).set t 2 _ ht hg).set t 3 _ ht hg
section
variable {w1 w w' : World} {g c : Nat} {A : Option Addr} {L : List Int} {tg ta tb : Nat} {d s b m k y u l k' y' u' l' : Int} {oa ob : Option (Nat × Q4)}
theorem some4 {t : Nat} {k y u l : Int} {t2 : Nat} {k2 y2 u2 l2 : Int} (h : (some (t, k, y, u, l) : Option (Nat × Q4)) = some (t2, k2, y2, u2, l2)) : t = t2 ∧ k = k2 ∧ y = y2 ∧ u = u2 ∧ l = l2 := by
  injection h with ho
  injection ho with h1 ho
  injection ho with h2 ho
  injection ho with h3 ho
  injection ho with h4 h5
  exact ⟨h1, h2, h3, h4, h5⟩
theorem RS.setA (h : RS w1 g c A L tg d s b m (some (ta, k, y, u, l)) ob w) (v0 v1 v2 v3 : Int) : RS w1 g c A L tg d s b m (some (ta, v0, v1, v2, v3)) ob (put4 w ta v0 v1 v2 v3) := by
  obtain ⟨k0, h0⟩ := h.e
  obtain ⟨ha, hla⟩ := h.a _ _ _ _ _ rfl
  have hg := h.gl
  refine ⟨⟨k0, put4_de h0 hla (by omega) _ _ _ _⟩, put4_other h.x (fun e => h.na _ _ rfl e.symm) _ _ _ _, ?_, ?_, ?_, ?_, h.nb, h.gl, h.tl⟩
  · intro t k2 y2 u2 l2 ho
    obtain ⟨rfl, rfl, rfl, rfl, rfl⟩ := some4 ho
    exact ⟨ha.all _ _ _ _, hla⟩
  · intro t k2 y2 u2 l2 ho
    obtain ⟨hb, hlb⟩ := h.b _ _ _ _ _ ho
    exact ⟨put4_other hb (fun e => h.ne _ _ _ _ rfl ho e.symm) _ _ _ _, hlb⟩
  · intro t qa t2 qb ho ho2
    injection ho with ho
    injection ho with h1 _
    subst h1
    exact h.ne _ _ _ _ rfl ho2
  · intro t qa ho
    injection ho with ho
    injection ho with h1 _
    subst h1
    exact h.na _ _ rfl
theorem RS.setB (h : RS w1 g c A L tg d s b m oa (some (tb, k, y, u, l)) w) (v0 v1 v2 v3 : Int) : RS w1 g c A L tg d s b m oa (some (tb, v0, v1, v2, v3)) (put4 w tb v0 v1 v2 v3) := by
  obtain ⟨k0, h0⟩ := h.e
  obtain ⟨hb, hlb⟩ := h.b _ _ _ _ _ rfl
  have hg := h.gl
  refine ⟨⟨k0, put4_de h0 hlb (by omega) _ _ _ _⟩, put4_other h.x (fun e => h.nb _ _ rfl e.symm) _ _ _ _, ?_, ?_, ?_, h.na, ?_, h.gl, h.tl⟩
  · intro t k2 y2 u2 l2 ho
    obtain ⟨ha, hla⟩ := h.a _ _ _ _ _ ho
    exact ⟨put4_other ha (fun e => h.ne _ _ _ _ ho rfl e) _ _ _ _, hla⟩
  · intro t k2 y2 u2 l2 ho
    obtain ⟨rfl, rfl, rfl, rfl, rfl⟩ := some4 ho
    exact ⟨hb.all _ _ _ _, hlb⟩
  · intro t qa t2 qb ho2 ho
    injection ho with ho
    injection ho with h1 _
    subst h1
    exact h.ne _ _ _ _ ho2 rfl
  · intro t qa ho
    injection ho with ho
    injection ho with h1 _
    subst h1
    exact h.nb _ _ rfl
theorem RS.setG (h : RS w1 g c A L tg d s b m oa ob w) (v0 v1 v2 v3 : Int) : RS w1 g c A L tg v0 v1 v2 v3 oa ob (put4 w tg v0 v1 v2 v3) := by
  obtain ⟨k0, h0⟩ := h.e
  have hg := h.gl
  have ht := h.tl
  refine ⟨⟨k0, put4_de h0 ht (by omega) _ _ _ _⟩, h.x.all _ _ _ _, ?_, ?_, h.ne, h.na, h.nb, h.gl, h.tl⟩
  · intro t k2 y2 u2 l2 ho
    obtain ⟨ha, hla⟩ := h.a _ _ _ _ _ ho
    exact ⟨put4_other ha (h.na _ _ ho) _ _ _ _, hla⟩
  · intro t k2 y2 u2 l2 ho
    obtain ⟨hb, hlb⟩ := h.b _ _ _ _ _ ho
    exact ⟨put4_other hb (h.nb _ _ ho) _ _ _ _, hlb⟩
end
end Go.Proofs.YtaijbdknaeeoeaaGreatDoor
set_option linter.unusedVariables false
set_option linter.unusedSimpArgs false
namespace Go.Proofs.YtaijbdknaeeoeaaGreatDoor
open Go Go.Proofs Go.RowKit Go.Lib

theorem RS.big {w1 w : World} {g c : Nat} {A : Option Addr} {L : List Int} {tg : Nat} {d s b m : Int} {oa ob : Option (Nat × Q4)} (h : RS w1 g c A L tg d s b m oa ob w) : g < w.heap.size := by
  obtain ⟨k0, h0⟩ := h.e
  exact Nat.lt_of_lt_of_le h.gl h0.p.size
set_option maxHeartbeats 16000000 in
set_option maxRecDepth 100000 in
theorem rmade_any (A : Option Addr) (L : List Int) (c : Nat) (hlen : L.length ≤ 9223372036854775807) (w : World) (hE : Env w) (hW : Words w) (hDy : Days w) (hRD : RDays w) (h : IntsIn w w.heap.size A L) :
    Calls Tryz.prog 4 #[.slice A L.length c] w fun e w' => e = .returned (.bool true) ∧ Below w.heap.size w w' := by
  have cL := light_any A L.length c w
  have hsz := hE.size
  have HWD := hid (fun w' (hb : Below w.heap.size w w') => hW.below hb hsz)
  have HRD := hid (fun w' (hb : Below w.heap.size w w') => hRD.below hb hsz)
  have HE := hid (fun w' (hb : Below w.heap.size w w') => hE.below hb hsz)
  have HDY := hid (fun w' (hb : Below w.heap.size w w') => hDy.below hb hsz)
  have cK := hid (fun w' (hb : Below w.heap.size w w') => tawake_any w' (hE.below hb hsz) (hDy.below hb hsz))
  have cK' := cK.out
  unfold Says at cK'
  have cK := hid cK'
  clear cK'
  by_cases hl : L.length ≤ 400
  · rw [decide_eq_true hl] at cL
    have cR := hid (fun w h => roll_any A L c hl w h)
    have HI := hid h
    clear hE hDy hW hRD h
    go_enter Tryz.func4, Tryz.ntmps4
    go_wp2_with fail
    refine cL.mono ?_
    rintro e w' ⟨rfl, rfl⟩
    go_wp2_with fail
    refine (cR.out _ HI.out).mono ?_
    rintro e w1 ⟨rfl, hd1, hb1⟩
    have hgl := hd1.lt
    have HB : Hid (∀ W k, DE w1 w.heap.size c A L k W → Below w.heap.size w W) := hid (fun W k he => hb1.trans (he.toBelow (Nat.le_of_lt hgl) (Nat.le_refl _)))
    have cG := hid (grid_any w.heap.size c 0 A L w1 hd1)
    clear hd1 hb1 cL cR HI
    go_wp2_with fail
    refine cG.out.mono ?_
    rintro e w2 ⟨d, s, b, m, k2, rfl, hmg, he2⟩
    have HN := hid (fun (W : World) k n hn (h : DiceAt W w.heap.size A L c k) => next_at w.heap.size c k A L n hn W h)
    have cN := HN.out _ _ 8 (by omega) he2.d
    obtain ⟨r, hr⟩ : ∃ r, rollV L k2 8 = r := ⟨_, rfl⟩
    have hrr := rollV_range L k2 8 (by omega)
    rw [hr] at cN hrr
    generalize rollK L k2 = k3 at cN
    obtain ⟨q, rfl⟩ : ∃ q : Nat, r = (q : Int) := ⟨r.toNat, by omega⟩
    obtain ⟨n, hn⟩ : ∃ n, q + 1 = n := ⟨_, rfl⟩
    have hn1 : 1 ≤ n := by omega
    have hn2 : n ≤ 8 := by omega
    have hni : 1 + (q : Int) = (n : Int) := by omega
    have HE2 := hid he2
    have CN := hid cN
    have HMG := hid hmg
    have g1 : 1 ≤ d ∧ d ≤ 5 := hmg.1
    have g2 : 2 ≤ s ∧ s ≤ 8 := hmg.2.1
    clear cN he2 hr hrr hn cG hmg
    go_wp2_with fail
    refine CN.out.mono ?_
    rintro e w3 ⟨rfl, hd3, hR3⟩
    have he3 := HE2.out.next hd3 hR3
    have hs3 := he3.p.size
    have hrs : RS w1 w.heap.size c A L w3.heap.size d s b m none none (w3.alloc (.cells #[.int .i64 d, .int .i64 s, .int .i64 b, .int .i64 m] 23)) :=
      ⟨⟨_, he3.alloc _⟩, Cells4.new w3 d s b m _, (fun _ _ _ _ _ h => (by cases h)), (fun _ _ _ _ _ h => (by cases h)), (fun _ _ _ _ h => (by cases h)), (fun _ _ h => (by cases h)), (fun _ _ h => (by cases h)), hgl, hs3⟩
    have cT : Hid (∀ oa ob W, RS w1 w.heap.size c A L w3.heap.size d s b m oa ob W → Calls Tryz.prog 16 #[.pointer (some ⟨w.heap.size, 0, none⟩), .agg #[.int .i64 d, .int .i64 s, .int .i64 b, .int .i64 m], .int .i64 (n : Int)] W fun e w' => (∃ k y u l : Int, e = .returned (.agg #[.int .i64 k, .int .i64 y, .int .i64 u, .int .i64 l]) ∧ MadeT d s n k y u l) ∧ RS w1 w.heap.size c A L w3.heap.size d s b m oa ob w') :=
      hid (fun oa ob W hk => by
        obtain ⟨k0, h0⟩ := hk.e
        refine (time_any w.heap.size c _ A L d s b m n hn1 (by omega) (by omega) (by omega) (by omega) (by omega) W h0.d).mono ?_
        rintro e w' ⟨k, y, u, l, k', h1, h2, h3⟩
        exact ⟨⟨k, y, u, l, h1, h2⟩, hk.de h3⟩)
    have HRS := hid hrs
    have HW := hid (fun k h => HB.out w3 k h)
    clear he3 hrs hd3 hR3 CN HE2 hs3
    have hk := HRS.out
    clear HRS
    obtain ⟨g0, g1z, g2z, g3z, _⟩ := hk.x.box
    go_wp2_with fail
    clear g0 g1z g2z g3z
    generalize w3.heap.size = tg at hk cT ⊢
    refine (cT.out _ _ _ hk).mono ?_
    rintro e w5 ⟨⟨K, Y, T, U, rfl, hmt⟩, hk2⟩
    clear hk
    have hk := hk2.allocA K Y T U
    clear hk2
    have hm2 := hmt.2.2.1
    have hm3 := hmt.2.2.2
    have HMT := hid hmt
    clear hmt
    have HBR : Hid (∀ (d s b m : Int) oa ob W, RS w1 w.heap.size c A L tg d s b m oa ob W → Below w.heap.size w W) := hid (fun d s b m oa ob W hk => by
      obtain ⟨k0, h0⟩ := hk.e
      exact HB.out _ _ h0)
    have cO : Hid (∀ (d s b m : Int) oa ob W (n : Int), n ≤ 4294967296 → 1 ≤ n → RS w1 w.heap.size c A L tg d s b m oa ob W → Calls Tryz.prog 17 #[.pointer (some ⟨w.heap.size, 0, none⟩), .int .i64 n] W fun e w' => (∃ r : Bool, e = .returned (.bool r)) ∧ RS w1 w.heap.size c A L tg d s b m oa ob w') :=
      hid (fun d s b m oa ob W n h1 h2 hk => by
        obtain ⟨k0, h0⟩ := hk.e
        refine (one_any w.heap.size c _ A L n h1 h2 W h0.d).mono ?_
        rintro e w' ⟨h1, h2, h3⟩
        exact ⟨h1, hk.roll h2 h3⟩)
    have cNXp : Hid (∀ (d s b m : Int) oa ob W, RS w1 w.heap.size c A L tg d s b m oa ob W → Calls Tryz.prog 15 #[.pointer (some ⟨w.heap.size, 0, none⟩), .int .i64 12] W fun e w' => (∃ r : Int, e = .returned (.int .i64 r) ∧ 0 ≤ r ∧ r < 12) ∧ Rolled w.heap.size W w' ∧ RS w1 w.heap.size c A L tg d s b m oa ob w') :=
      hid (fun d s b m oa ob W hk => by
        obtain ⟨k0, h0⟩ := hk.e
        refine (next_any w.heap.size c _ A L 12 (by omega) W h0.d).mono ?_
        rintro e w' ⟨⟨r, h1, h2⟩, h3, h4⟩
        exact ⟨⟨r, h1, h2 (by omega)⟩, h4, hk.roll h3 h4⟩)
    have cOG : Hid (∀ (d s b m : Int) oa ob W, Small4 d s b m → RS w1 w.heap.size c A L tg d s b m oa ob W → Calls Tryz.prog 19 #[.pointer (some ⟨w.heap.size, 0, none⟩), .agg #[.int .i64 d, .int .i64 s, .int .i64 b, .int .i64 m]] W fun e w' => (∃ k y u l : Int, e = .returned (.agg #[.int .i64 k, .int .i64 y, .int .i64 u, .int .i64 l]) ∧ Small4 k y u l) ∧ RS w1 w.heap.size c A L tg d s b m oa ob w') :=
      hid (fun d s b m oa ob W hs hk => by
        obtain ⟨k0, h0⟩ := hk.e
        refine (oddGrid_any w.heap.size c _ A L d s b m hs W h0.d).mono ?_
        rintro e w' ⟨k, y, u, l, k', h1, h2, h3⟩
        exact ⟨⟨k, y, u, l, h1, h2⟩, hk.de h3⟩)
    have cSP : Hid (∀ (d s b m : Int) oa ob W (X : ByteArray), X.size ≤ 1000 → RS w1 w.heap.size c A L tg d s b m oa ob W → Calls Tryz.prog 18 #[.pointer (some ⟨w.heap.size, 0, none⟩), .string X, .string ⟨#[77, 111, 84, 117, 32, 48, 49, 50, 57, 45, 44, 100, 83]⟩] W fun e w' => (∃ Y : ByteArray, e = .returned (.string Y) ∧ Y.size ≤ 1001) ∧ RS w1 w.heap.size c A L tg d s b m oa ob w') :=
      hid (fun d s b m oa ob W X hX hk => by
        obtain ⟨k0, h0⟩ := hk.e
        refine (spoil_any w.heap.size c _ A L X ⟨#[77, 111, 84, 117, 32, 48, 49, 50, 57, 45, 44, 100, 83]⟩ (by omega) (by decide) (by decide) W h0.d).mono ?_
        rintro e w' ⟨⟨l, h1, h2⟩, ⟨k', h3⟩, h4⟩
        exact ⟨⟨_, h1, by show l.length ≤ 1001; omega⟩, hk.de ⟨h3, h4⟩⟩)
    have hsg : Small4 d s b m := by
      obtain ⟨m1, m2, m3, m4⟩ := HMG.out
      exact ⟨by omega, by omega, by omega, by omega⟩
    have hfit := made_fits HMG.out hn1 (by omega) HMT.out
    have hT0 : 0 ≤ T ∧ T ≤ 9223372036854775807 := by omega
    have up : Hid (∀ W : World, Below w.heap.size w W → 5 < W.heap.size) := hid (fun W hb => Nat.lt_of_lt_of_le hsz hb.size)
    have hRF : ∃ X : ByteArray, X.size ≤ 300 ∧ ∀ W, Below w.heap.size w W → Calls Tryz.prog 8 #[.agg #[.int .i64 d, .int .i64 s, .int .i64 b, .int .i64 m], .int .i64 (n : Int), .agg #[.int .i64 K, .int .i64 Y, .int .i64 T, .int .i64 U]] W fun e w' => e = .returned (.tuple #[.string X, .int .i64 0]) ∧ Below W.heap.size W w' := by
      refine ⟨ba (textT d s b m (n : Int) K Y T U).1, ?_, fun W hb => ?_⟩
      · unfold textT
        rw [if_pos hfit, ba_size]
        exact time_len
      · refine (rtformat_any d s b m (n : Int) K Y T U W (up.out _ hb) (HWD.out _ hb) (HRD.out _ hb)).mono ?_
        rintro e w' ⟨h1, h2⟩
        refine ⟨?_, h2⟩
        rw [h1]
        unfold textT
        rw [if_pos hfit]
    obtain ⟨X, hXs, cRF⟩ := hRF
    have CRF := hid cRF
    have cRD : Hid (∀ (d s b m : Int) (X : ByteArray), X.size ≤ 2000 → ∃ (r0 r1 r2 r3 re : Int) (Fs : ByteArray) (fe : Int), ∀ W, Below w.heap.size w W →
        (Calls Tryz.prog 5 #[.agg #[.int .i64 d, .int .i64 s, .int .i64 b, .int .i64 m], .int .i64 (n : Int), .string X] W fun e w' => e = .returned (.tuple #[.agg #[.int .i64 r0, .int .i64 r1, .int .i64 r2, .int .i64 r3], .int .i64 re]) ∧ Below W.heap.size W w') ∧
        (Calls Tryz.prog 6 #[.agg #[.int .i64 d, .int .i64 s, .int .i64 b, .int .i64 m], .int .i64 (n : Int), .string X] W fun e w' => e = .returned (.tuple #[.agg #[.int .i64 r0, .int .i64 r1, .int .i64 r2, .int .i64 r3], .int .i64 re]) ∧ Below W.heap.size W w') ∧
        (Calls Tryz.prog 7 #[.agg #[.int .i64 d, .int .i64 s, .int .i64 b, .int .i64 m], .int .i64 (n : Int), .agg #[.int .i64 K, .int .i64 Y, .int .i64 T, .int .i64 U]] W fun e w' => e = .returned (.tuple #[.string Fs, .int .i64 fe]) ∧ Below W.heap.size W w') ∧
        (Calls Tryz.prog 8 #[.agg #[.int .i64 d, .int .i64 s, .int .i64 b, .int .i64 m], .int .i64 (n : Int), .agg #[.int .i64 K, .int .i64 Y, .int .i64 T, .int .i64 U]] W fun e w' => e = .returned (.tuple #[.string Fs, .int .i64 fe]) ∧ Below W.heap.size W w')) :=
      hid (fun d s b m X hX => ⟨_, _, _, _, _, _, _, fun W hb => ⟨tparse_any d s b m (n : Int) X (by omega) W (HE.out _ hb) (HDY.out _ hb), rtparse_any d s b m (n : Int) X (by omega) W (up.out _ hb) (HWD.out _ hb) (HRD.out _ hb),
        tformat_any d s b m (n : Int) K Y T U hT0.2 W (HE.out _ hb) (HDY.out _ hb), rtformat_any d s b m (n : Int) K Y T U W (up.out _ hb) (HWD.out _ hb) (HRD.out _ hb)⟩⟩)
    have cCK : Hid (∀ (d s b m q : Int), ∃ (h0 h1 h2 : Int), (∀ W, Calls Tryz.prog 9 #[.agg #[.int .i64 d, .int .i64 s, .int .i64 b, .int .i64 m], .int .i64 q] W fun e w' => e = .returned (.tuple #[.int .i64 h0, .int .i64 h1, .int .i64 h2]) ∧ Below W.heap.size W w') ∧
        (∀ W, Calls Tryz.prog 10 #[.agg #[.int .i64 d, .int .i64 s, .int .i64 b, .int .i64 m], .int .i64 q] W fun e w' => e = .returned (.tuple #[.int .i64 h0, .int .i64 h1, .int .i64 h2]) ∧ Below W.heap.size W w')) :=
      hid (fun d s b m q => ⟨_, _, _, fun W => clock_any d s b m q W, fun W => rclock_any d s b m q W⟩)
    have cK' := cK.out
    unfold Says at cK'
    have cKx := hid cK'
    clear cK cK' cT hfit cRF HMT HW HN HE HDY HWD HRD HB hn1 hn2 hni hm2 hm3 hgl hT0 up HMG
    obtain ⟨g0, g1, g2, g3, _⟩ := hk.x.box
    obtain ⟨a0, a1, a2, a3, _⟩ := (hk.a _ _ _ _ _ rfl).1.box
    go_wp2_with fail
    refine (CRF.out _ (HBR.out _ _ _ _ _ _ _ hk)).mono ?_
    rintro e w6 ⟨rfl, hb⟩
    have hk2 := hk.below hb
    clear hk g0 g1 g2 g3 a0 a1 a2 a3
    have hk := hk2
    clear hk2
    clear hb
    obtain ⟨g0, g1, g2, g3, _⟩ := hk.x.box
    obtain ⟨a0, a1, a2, a3, _⟩ := (hk.a _ _ _ _ _ rfl).1.box
    go_wp2_with fail
    refine (cO.out _ _ _ _ _ _ _ 2 (by omega) (by omega) hk).mono ?_
    rintro e w7 ⟨⟨r2, rfl⟩, hk2⟩
    clear g0 g1 g2 g3 a0 a1 a2 a3 hk
    have hk := hk2
    clear hk2
    cases r2 with
    | false =>
      obtain ⟨g0, g1, g2, g3, _⟩ := hk.x.box
      obtain ⟨a0, a1, a2, a3, _⟩ := (hk.a _ _ _ _ _ rfl).1.box
      go_wp2_with fail
      refine (cO.out _ _ _ _ _ _ _ 5 (by omega) (by omega) hk).mono ?_
      rintro e w7 ⟨⟨r5, rfl⟩, hk2⟩
      clear g0 g1 g2 g3 a0 a1 a2 a3 hk
      have hk := hk2
      clear hk2
      cases r5 with
      | false =>
        obtain ⟨r0, r1, r2, r3, re, Fs, fe, CR⟩ := cRD.out d s b m X (by omega)
        have CRH := hid CR
        clear CR
        obtain ⟨g0, g1, g2, g3, _⟩ := hk.x.box
        obtain ⟨a0, a1, a2, a3, _⟩ := (hk.a _ _ _ _ _ rfl).1.box
        go_wp2_with fail
        refine (CRH.out _ (HBR.out _ _ _ _ _ _ _ hk)).1.mono ?_
        rintro e wa ⟨rfl, hb⟩
        have hk2 := hk.below hb
        clear hk g0 g1 g2 g3 a0 a1 a2 a3
        have hk := hk2
        clear hk2
        have hsa := hk.big
        clear hb
        have hba := (Below.refl _ wa).alloc (Nat.le_refl _) (.cells #[.int .i64 r0, .int .i64 r1, .int .i64 r2, .int .i64 r3] 25)
        have HT := hid (Cells4.new wa r0 r1 r2 r3 25)
        have hk2 := hk.below hba
        clear hk hba
        have hk := hk2
        clear hk2
        obtain ⟨g0, g1, g2, g3, _⟩ := hk.x.box
        obtain ⟨a0, a1, a2, a3, _⟩ := (hk.a _ _ _ _ _ rfl).1.box
        go_wp2_with fail
        refine (CRH.out _ (HBR.out _ _ _ _ _ _ _ hk)).2.1.mono ?_
        rintro e wb ⟨rfl, hb⟩
        have HT2 := hid (HT.out.under hb)
        have hk2 := hk.below hb
        clear hk g0 g1 g2 g3 a0 a1 a2 a3
        have hk := hk2
        clear hk2
        have hsb := hk.big
        clear hb HT
        have hba := (Below.refl _ wb).alloc (Nat.le_refl _) (.cells #[.int .i64 r0, .int .i64 r1, .int .i64 r2, .int .i64 r3] 25)
        have HT := hid (HT2.out.under hba)
        have HU := hid (Cells4.new wb r0 r1 r2 r3 25)
        have hk2 := hk.below hba
        clear hk hba HT2
        have hk := hk2
        clear hk2
        obtain ⟨g0, g1, g2, g3, _⟩ := hk.x.box
        obtain ⟨a0, a1, a2, a3, _⟩ := (hk.a _ _ _ _ _ rfl).1.box
        go_wp2_with fail
        refine ((CRH.out _ (HBR.out _ _ _ _ _ _ _ hk)).2.2.1).mono ?_
        rintro e wc ⟨rfl, hb⟩
        have HT2 := hid (HT.out.under hb)
        have HU2 := hid (HU.out.under hb)
        have hk2 := hk.below hb
        clear hk g0 g1 g2 g3 a0 a1 a2 a3
        have hk := hk2
        clear hk2
        clear hb HT HU
        have HT := hid HT2.out
        have HU := hid HU2.out
        clear HT2 HU2
        obtain ⟨g0, g1, g2, g3, _⟩ := hk.x.box
        obtain ⟨a0, a1, a2, a3, _⟩ := (hk.a _ _ _ _ _ rfl).1.box
        go_wp2_with fail
        refine ((CRH.out _ (HBR.out _ _ _ _ _ _ _ hk)).2.2.2).mono ?_
        rintro e wd ⟨rfl, hb⟩
        have HT2 := hid (HT.out.under hb)
        have HU2 := hid (HU.out.under hb)
        have hk2 := hk.below hb
        clear hk g0 g1 g2 g3 a0 a1 a2 a3
        have hk := hk2
        clear hk2
        clear hb HT HU
        have HT := hid HT2.out
        have HU := hid HU2.out
        clear HT2 HU2
        have hlts := HT.out.lt
        have hltu := HU.out.lt
        go_wp2_with fail
        refine (cNXp.out d s b m _ _ _ hk).mono ?_
        rintro e we ⟨⟨r, rfl, q1, q2⟩, hp, hk2⟩
        have HT2 := hid (HT.out.roll hp (by omega))
        have HU2 := hid (HU.out.roll hp (by omega))
        clear hk HT HU hp hlts hltu
        have hk := hk2
        clear hk2
        have HT := hid HT2.out
        have HU := hid HU2.out
        clear HT2 HU2
        have v1 : IntKind.i64.wrap (r - 1) = r - 1 := IntWalk.i64_in _ (by omega)
        obtain ⟨h0, h1, h2, CC1, CC2⟩ := cCK.out d s b m (r - 1)
        have C1 := hid CC1
        have C2 := hid CC2
        clear CC1 CC2
        obtain ⟨g0, g1, g2, g3, _⟩ := hk.x.box
        obtain ⟨a0, a1, a2, a3, _⟩ := (hk.a _ _ _ _ _ rfl).1.box
        go_wp2_with fail
        refine (C1.out _).mono ?_
        rintro e wf ⟨rfl, hb⟩
        have HT2 := hid (HT.out.under hb)
        have HU2 := hid (HU.out.under hb)
        have hk2 := hk.below hb
        clear hk g0 g1 g2 g3 a0 a1 a2 a3
        have hk := hk2
        clear hk2
        clear hb HT HU
        have HT := hid HT2.out
        have HU := hid HU2.out
        clear HT2 HU2
        obtain ⟨g0, g1, g2, g3, _⟩ := hk.x.box
        obtain ⟨a0, a1, a2, a3, _⟩ := (hk.a _ _ _ _ _ rfl).1.box
        go_wp2_with fail
        refine (C2.out _).mono ?_
        rintro e wh ⟨rfl, hb⟩
        have HT2 := hid (HT.out.under hb)
        have HU2 := hid (HU.out.under hb)
        have hk2 := hk.below hb
        clear hk g0 g1 g2 g3 a0 a1 a2 a3
        have hk := hk2
        clear hk2
        clear hb HT HU
        have HT := hid HT2.out
        have HU := hid HU2.out
        clear HT2 HU2
        go_wp2_with fail
        refine (cKx.out _ (HBR.out _ _ _ _ _ _ _ hk)).mono ?_
        rintro e wk ⟨rfl, hb⟩
        obtain ⟨t0, t1, t2, t3, _⟩ := (HT.out.under hb).box
        obtain ⟨u0, u1, u2, u3, _⟩ := (HU.out.under hb).box
        have hk2 := hk.below hb
        clear hb hk HT HU
        go_wp2
        go_ret
        exact ⟨rfl, HBR.out _ _ _ _ _ _ _ hk2⟩
      | true =>
        obtain ⟨g0, g1, g2, g3, _⟩ := hk.x.box
        obtain ⟨a0, a1, a2, a3, _⟩ := (hk.a _ _ _ _ _ rfl).1.box
        go_wp2_with fail
        refine (cOG.out _ _ _ _ _ _ _ hsg hk).mono ?_
        rintro e w9 ⟨⟨dq, sq, bq, mq, rfl, hs2⟩, hk2⟩
        clear g0 g1 g2 g3 a0 a1 a2 a3 hk
        have hk := hk2
        clear hk2 hs2
        obtain ⟨g0, g1, g2, g3, _⟩ := hk.x.box
        obtain ⟨a0, a1, a2, a3, _⟩ := (hk.a _ _ _ _ _ rfl).1.box
        have fg0 := hk.x.free 0
        have fg1 := hk.x.free 1
        have fg2 := hk.x.free 2
        have fg3 := hk.x.free 3
        have hk2 := hk.setG dq sq bq mq
        unfold put4 at hk2
        obtain ⟨p0, p1, p2, p3, _⟩ := hk2.x.box
        obtain ⟨s0, s1, s2, s3, _⟩ := (hk2.a _ _ _ _ _ rfl).1.box
        obtain ⟨r0, r1, r2, r3, re, Fs, fe, CR⟩ := cRD.out dq sq bq mq X (by omega)
        have CRH := hid CR
        clear CR
        go_wp2_with fail
        clear hk fg0 fg1 fg2 fg3 p0 p1 p2 p3 s0 s1 s2 s3 g0 g1 g2 g3 a0 a1 a2 a3
        have hk := hk2
        clear hk2
        refine (CRH.out _ (HBR.out _ _ _ _ _ _ _ hk)).1.mono ?_
        rintro e wa ⟨rfl, hb⟩
        have hk2 := hk.below hb
        clear hk
        have hk := hk2
        clear hk2
        have hsa := hk.big
        clear hb
        have hba := (Below.refl _ wa).alloc (Nat.le_refl _) (.cells #[.int .i64 r0, .int .i64 r1, .int .i64 r2, .int .i64 r3] 25)
        have HT := hid (Cells4.new wa r0 r1 r2 r3 25)
        have hk2 := hk.below hba
        clear hk hba
        have hk := hk2
        clear hk2
        obtain ⟨g0, g1, g2, g3, _⟩ := hk.x.box
        obtain ⟨a0, a1, a2, a3, _⟩ := (hk.a _ _ _ _ _ rfl).1.box
        go_wp2_with fail
        refine (CRH.out _ (HBR.out _ _ _ _ _ _ _ hk)).2.1.mono ?_
        rintro e wb ⟨rfl, hb⟩
        have HT2 := hid (HT.out.under hb)
        have hk2 := hk.below hb
        clear hk g0 g1 g2 g3 a0 a1 a2 a3
        have hk := hk2
        clear hk2
        have hsb := hk.big
        clear hb HT
        have hba := (Below.refl _ wb).alloc (Nat.le_refl _) (.cells #[.int .i64 r0, .int .i64 r1, .int .i64 r2, .int .i64 r3] 25)
        have HT := hid (HT2.out.under hba)
        have HU := hid (Cells4.new wb r0 r1 r2 r3 25)
        have hk2 := hk.below hba
        clear hk hba HT2
        have hk := hk2
        clear hk2
        obtain ⟨g0, g1, g2, g3, _⟩ := hk.x.box
        obtain ⟨a0, a1, a2, a3, _⟩ := (hk.a _ _ _ _ _ rfl).1.box
        go_wp2_with fail
        refine ((CRH.out _ (HBR.out _ _ _ _ _ _ _ hk)).2.2.1).mono ?_
        rintro e wc ⟨rfl, hb⟩
        have HT2 := hid (HT.out.under hb)
        have HU2 := hid (HU.out.under hb)
        have hk2 := hk.below hb
        clear hk g0 g1 g2 g3 a0 a1 a2 a3
        have hk := hk2
        clear hk2
        clear hb HT HU
        have HT := hid HT2.out
        have HU := hid HU2.out
        clear HT2 HU2
        obtain ⟨g0, g1, g2, g3, _⟩ := hk.x.box
        obtain ⟨a0, a1, a2, a3, _⟩ := (hk.a _ _ _ _ _ rfl).1.box
        go_wp2_with fail
        refine ((CRH.out _ (HBR.out _ _ _ _ _ _ _ hk)).2.2.2).mono ?_
        rintro e wd ⟨rfl, hb⟩
        have HT2 := hid (HT.out.under hb)
        have HU2 := hid (HU.out.under hb)
        have hk2 := hk.below hb
        clear hk g0 g1 g2 g3 a0 a1 a2 a3
        have hk := hk2
        clear hk2
        clear hb HT HU
        have HT := hid HT2.out
        have HU := hid HU2.out
        clear HT2 HU2
        have hlts := HT.out.lt
        have hltu := HU.out.lt
        go_wp2_with fail
        refine (cNXp.out dq sq bq mq _ _ _ hk).mono ?_
        rintro e we ⟨⟨r, rfl, q1, q2⟩, hp, hk2⟩
        have HT2 := hid (HT.out.roll hp (by omega))
        have HU2 := hid (HU.out.roll hp (by omega))
        clear hk HT HU hp hlts hltu
        have hk := hk2
        clear hk2
        have HT := hid HT2.out
        have HU := hid HU2.out
        clear HT2 HU2
        have v1 : IntKind.i64.wrap (r - 1) = r - 1 := IntWalk.i64_in _ (by omega)
        obtain ⟨h0, h1, h2, CC1, CC2⟩ := cCK.out dq sq bq mq (r - 1)
        have C1 := hid CC1
        have C2 := hid CC2
        clear CC1 CC2
        obtain ⟨g0, g1, g2, g3, _⟩ := hk.x.box
        obtain ⟨a0, a1, a2, a3, _⟩ := (hk.a _ _ _ _ _ rfl).1.box
        go_wp2_with fail
        refine (C1.out _).mono ?_
        rintro e wf ⟨rfl, hb⟩
        have HT2 := hid (HT.out.under hb)
        have HU2 := hid (HU.out.under hb)
        have hk2 := hk.below hb
        clear hk g0 g1 g2 g3 a0 a1 a2 a3
        have hk := hk2
        clear hk2
        clear hb HT HU
        have HT := hid HT2.out
        have HU := hid HU2.out
        clear HT2 HU2
        obtain ⟨g0, g1, g2, g3, _⟩ := hk.x.box
        obtain ⟨a0, a1, a2, a3, _⟩ := (hk.a _ _ _ _ _ rfl).1.box
        go_wp2_with fail
        refine (C2.out _).mono ?_
        rintro e wh ⟨rfl, hb⟩
        have HT2 := hid (HT.out.under hb)
        have HU2 := hid (HU.out.under hb)
        have hk2 := hk.below hb
        clear hk g0 g1 g2 g3 a0 a1 a2 a3
        have hk := hk2
        clear hk2
        clear hb HT HU
        have HT := hid HT2.out
        have HU := hid HU2.out
        clear HT2 HU2
        go_wp2_with fail
        refine (cKx.out _ (HBR.out _ _ _ _ _ _ _ hk)).mono ?_
        rintro e wk ⟨rfl, hb⟩
        obtain ⟨t0, t1, t2, t3, _⟩ := (HT.out.under hb).box
        obtain ⟨u0, u1, u2, u3, _⟩ := (HU.out.under hb).box
        have hk2 := hk.below hb
        clear hb hk HT HU
        go_wp2
        go_ret
        exact ⟨rfl, HBR.out _ _ _ _ _ _ _ hk2⟩
    | true =>
      obtain ⟨g0, g1, g2, g3, _⟩ := hk.x.box
      obtain ⟨a0, a1, a2, a3, _⟩ := (hk.a _ _ _ _ _ rfl).1.box
      go_wp2_with fail
      refine (cSP.out _ _ _ _ _ _ _ X (by omega) hk).mono ?_
      rintro e w8 ⟨⟨X2, rfl, hX2⟩, hk2⟩
      clear g0 g1 g2 g3 a0 a1 a2 a3 hk
      have hk := hk2
      clear hk2
      obtain ⟨g0, g1, g2, g3, _⟩ := hk.x.box
      obtain ⟨a0, a1, a2, a3, _⟩ := (hk.a _ _ _ _ _ rfl).1.box
      go_wp2_with fail
      refine (cO.out _ _ _ _ _ _ _ 5 (by omega) (by omega) hk).mono ?_
      rintro e w7 ⟨⟨r5, rfl⟩, hk2⟩
      clear g0 g1 g2 g3 a0 a1 a2 a3 hk
      have hk := hk2
      clear hk2
      cases r5 with
      | false =>
        obtain ⟨r0, r1, r2, r3, re, Fs, fe, CR⟩ := cRD.out d s b m X2 (by omega)
        have CRH := hid CR
        clear CR
        obtain ⟨g0, g1, g2, g3, _⟩ := hk.x.box
        obtain ⟨a0, a1, a2, a3, _⟩ := (hk.a _ _ _ _ _ rfl).1.box
        go_wp2_with fail
        refine (CRH.out _ (HBR.out _ _ _ _ _ _ _ hk)).1.mono ?_
        rintro e wa ⟨rfl, hb⟩
        have hk2 := hk.below hb
        clear hk g0 g1 g2 g3 a0 a1 a2 a3
        have hk := hk2
        clear hk2
        have hsa := hk.big
        clear hb
        have hba := (Below.refl _ wa).alloc (Nat.le_refl _) (.cells #[.int .i64 r0, .int .i64 r1, .int .i64 r2, .int .i64 r3] 25)
        have HT := hid (Cells4.new wa r0 r1 r2 r3 25)
        have hk2 := hk.below hba
        clear hk hba
        have hk := hk2
        clear hk2
        obtain ⟨g0, g1, g2, g3, _⟩ := hk.x.box
        obtain ⟨a0, a1, a2, a3, _⟩ := (hk.a _ _ _ _ _ rfl).1.box
        go_wp2_with fail
        refine (CRH.out _ (HBR.out _ _ _ _ _ _ _ hk)).2.1.mono ?_
        rintro e wb ⟨rfl, hb⟩
        have HT2 := hid (HT.out.under hb)
        have hk2 := hk.below hb
        clear hk g0 g1 g2 g3 a0 a1 a2 a3
        have hk := hk2
        clear hk2
        have hsb := hk.big
        clear hb HT
        have hba := (Below.refl _ wb).alloc (Nat.le_refl _) (.cells #[.int .i64 r0, .int .i64 r1, .int .i64 r2, .int .i64 r3] 25)
        have HT := hid (HT2.out.under hba)
        have HU := hid (Cells4.new wb r0 r1 r2 r3 25)
        have hk2 := hk.below hba
        clear hk hba HT2
        have hk := hk2
        clear hk2
        obtain ⟨g0, g1, g2, g3, _⟩ := hk.x.box
        obtain ⟨a0, a1, a2, a3, _⟩ := (hk.a _ _ _ _ _ rfl).1.box
        go_wp2_with fail
        refine ((CRH.out _ (HBR.out _ _ _ _ _ _ _ hk)).2.2.1).mono ?_
        rintro e wc ⟨rfl, hb⟩
        have HT2 := hid (HT.out.under hb)
        have HU2 := hid (HU.out.under hb)
        have hk2 := hk.below hb
        clear hk g0 g1 g2 g3 a0 a1 a2 a3
        have hk := hk2
        clear hk2
        clear hb HT HU
        have HT := hid HT2.out
        have HU := hid HU2.out
        clear HT2 HU2
        obtain ⟨g0, g1, g2, g3, _⟩ := hk.x.box
        obtain ⟨a0, a1, a2, a3, _⟩ := (hk.a _ _ _ _ _ rfl).1.box
        go_wp2_with fail
        refine ((CRH.out _ (HBR.out _ _ _ _ _ _ _ hk)).2.2.2).mono ?_
        rintro e wd ⟨rfl, hb⟩
        have HT2 := hid (HT.out.under hb)
        have HU2 := hid (HU.out.under hb)
        have hk2 := hk.below hb
        clear hk g0 g1 g2 g3 a0 a1 a2 a3
        have hk := hk2
        clear hk2
        clear hb HT HU
        have HT := hid HT2.out
        have HU := hid HU2.out
        clear HT2 HU2
        have hlts := HT.out.lt
        have hltu := HU.out.lt
        go_wp2_with fail
        refine (cNXp.out d s b m _ _ _ hk).mono ?_
        rintro e we ⟨⟨r, rfl, q1, q2⟩, hp, hk2⟩
        have HT2 := hid (HT.out.roll hp (by omega))
        have HU2 := hid (HU.out.roll hp (by omega))
        clear hk HT HU hp hlts hltu
        have hk := hk2
        clear hk2
        have HT := hid HT2.out
        have HU := hid HU2.out
        clear HT2 HU2
        have v1 : IntKind.i64.wrap (r - 1) = r - 1 := IntWalk.i64_in _ (by omega)
        obtain ⟨h0, h1, h2, CC1, CC2⟩ := cCK.out d s b m (r - 1)
        have C1 := hid CC1
        have C2 := hid CC2
        clear CC1 CC2
        obtain ⟨g0, g1, g2, g3, _⟩ := hk.x.box
        obtain ⟨a0, a1, a2, a3, _⟩ := (hk.a _ _ _ _ _ rfl).1.box
        go_wp2_with fail
        refine (C1.out _).mono ?_
        rintro e wf ⟨rfl, hb⟩
        have HT2 := hid (HT.out.under hb)
        have HU2 := hid (HU.out.under hb)
        have hk2 := hk.below hb
        clear hk g0 g1 g2 g3 a0 a1 a2 a3
        have hk := hk2
        clear hk2
        clear hb HT HU
        have HT := hid HT2.out
        have HU := hid HU2.out
        clear HT2 HU2
        obtain ⟨g0, g1, g2, g3, _⟩ := hk.x.box
        obtain ⟨a0, a1, a2, a3, _⟩ := (hk.a _ _ _ _ _ rfl).1.box
        go_wp2_with fail
        refine (C2.out _).mono ?_
        rintro e wh ⟨rfl, hb⟩
        have HT2 := hid (HT.out.under hb)
        have HU2 := hid (HU.out.under hb)
        have hk2 := hk.below hb
        clear hk g0 g1 g2 g3 a0 a1 a2 a3
        have hk := hk2
        clear hk2
        clear hb HT HU
        have HT := hid HT2.out
        have HU := hid HU2.out
        clear HT2 HU2
        go_wp2_with fail
        refine (cKx.out _ (HBR.out _ _ _ _ _ _ _ hk)).mono ?_
        rintro e wk ⟨rfl, hb⟩
        obtain ⟨t0, t1, t2, t3, _⟩ := (HT.out.under hb).box
        obtain ⟨u0, u1, u2, u3, _⟩ := (HU.out.under hb).box
        have hk2 := hk.below hb
        clear hb hk HT HU
        go_wp2
        go_ret
        exact ⟨rfl, HBR.out _ _ _ _ _ _ _ hk2⟩
      | true =>
        obtain ⟨g0, g1, g2, g3, _⟩ := hk.x.box
        obtain ⟨a0, a1, a2, a3, _⟩ := (hk.a _ _ _ _ _ rfl).1.box
        go_wp2_with fail
        refine (cOG.out _ _ _ _ _ _ _ hsg hk).mono ?_
        rintro e w9 ⟨⟨dq, sq, bq, mq, rfl, hs2⟩, hk2⟩
        clear g0 g1 g2 g3 a0 a1 a2 a3 hk
        have hk := hk2
        clear hk2 hs2
        obtain ⟨g0, g1, g2, g3, _⟩ := hk.x.box
        obtain ⟨a0, a1, a2, a3, _⟩ := (hk.a _ _ _ _ _ rfl).1.box
        have fg0 := hk.x.free 0
        have fg1 := hk.x.free 1
        have fg2 := hk.x.free 2
        have fg3 := hk.x.free 3
        have hk2 := hk.setG dq sq bq mq
        unfold put4 at hk2
        obtain ⟨p0, p1, p2, p3, _⟩ := hk2.x.box
        obtain ⟨s0, s1, s2, s3, _⟩ := (hk2.a _ _ _ _ _ rfl).1.box
        obtain ⟨r0, r1, r2, r3, re, Fs, fe, CR⟩ := cRD.out dq sq bq mq X2 (by omega)
        have CRH := hid CR
        clear CR
        go_wp2_with fail
        clear hk fg0 fg1 fg2 fg3 p0 p1 p2 p3 s0 s1 s2 s3 g0 g1 g2 g3 a0 a1 a2 a3
        have hk := hk2
        clear hk2
        refine (CRH.out _ (HBR.out _ _ _ _ _ _ _ hk)).1.mono ?_
        rintro e wa ⟨rfl, hb⟩
        have hk2 := hk.below hb
        clear hk
        have hk := hk2
        clear hk2
        have hsa := hk.big
        clear hb
        have hba := (Below.refl _ wa).alloc (Nat.le_refl _) (.cells #[.int .i64 r0, .int .i64 r1, .int .i64 r2, .int .i64 r3] 25)
        have HT := hid (Cells4.new wa r0 r1 r2 r3 25)
        have hk2 := hk.below hba
        clear hk hba
        have hk := hk2
        clear hk2
        obtain ⟨g0, g1, g2, g3, _⟩ := hk.x.box
        obtain ⟨a0, a1, a2, a3, _⟩ := (hk.a _ _ _ _ _ rfl).1.box
        go_wp2_with fail
        refine (CRH.out _ (HBR.out _ _ _ _ _ _ _ hk)).2.1.mono ?_
        rintro e wb ⟨rfl, hb⟩
        have HT2 := hid (HT.out.under hb)
        have hk2 := hk.below hb
        clear hk g0 g1 g2 g3 a0 a1 a2 a3
        have hk := hk2
        clear hk2
        have hsb := hk.big
        clear hb HT
        have hba := (Below.refl _ wb).alloc (Nat.le_refl _) (.cells #[.int .i64 r0, .int .i64 r1, .int .i64 r2, .int .i64 r3] 25)
        have HT := hid (HT2.out.under hba)
        have HU := hid (Cells4.new wb r0 r1 r2 r3 25)
        have hk2 := hk.below hba
        clear hk hba HT2
        have hk := hk2
        clear hk2
        obtain ⟨g0, g1, g2, g3, _⟩ := hk.x.box
        obtain ⟨a0, a1, a2, a3, _⟩ := (hk.a _ _ _ _ _ rfl).1.box
        go_wp2_with fail
        refine ((CRH.out _ (HBR.out _ _ _ _ _ _ _ hk)).2.2.1).mono ?_
        rintro e wc ⟨rfl, hb⟩
        have HT2 := hid (HT.out.under hb)
        have HU2 := hid (HU.out.under hb)
        have hk2 := hk.below hb
        clear hk g0 g1 g2 g3 a0 a1 a2 a3
        have hk := hk2
        clear hk2
        clear hb HT HU
        have HT := hid HT2.out
        have HU := hid HU2.out
        clear HT2 HU2
        obtain ⟨g0, g1, g2, g3, _⟩ := hk.x.box
        obtain ⟨a0, a1, a2, a3, _⟩ := (hk.a _ _ _ _ _ rfl).1.box
        go_wp2_with fail
        refine ((CRH.out _ (HBR.out _ _ _ _ _ _ _ hk)).2.2.2).mono ?_
        rintro e wd ⟨rfl, hb⟩
        have HT2 := hid (HT.out.under hb)
        have HU2 := hid (HU.out.under hb)
        have hk2 := hk.below hb
        clear hk g0 g1 g2 g3 a0 a1 a2 a3
        have hk := hk2
        clear hk2
        clear hb HT HU
        have HT := hid HT2.out
        have HU := hid HU2.out
        clear HT2 HU2
        have hlts := HT.out.lt
        have hltu := HU.out.lt
        go_wp2_with fail
        refine (cNXp.out dq sq bq mq _ _ _ hk).mono ?_
        rintro e we ⟨⟨r, rfl, q1, q2⟩, hp, hk2⟩
        have HT2 := hid (HT.out.roll hp (by omega))
        have HU2 := hid (HU.out.roll hp (by omega))
        clear hk HT HU hp hlts hltu
        have hk := hk2
        clear hk2
        have HT := hid HT2.out
        have HU := hid HU2.out
        clear HT2 HU2
        have v1 : IntKind.i64.wrap (r - 1) = r - 1 := IntWalk.i64_in _ (by omega)
        obtain ⟨h0, h1, h2, CC1, CC2⟩ := cCK.out dq sq bq mq (r - 1)
        have C1 := hid CC1
        have C2 := hid CC2
        clear CC1 CC2
        obtain ⟨g0, g1, g2, g3, _⟩ := hk.x.box
        obtain ⟨a0, a1, a2, a3, _⟩ := (hk.a _ _ _ _ _ rfl).1.box
        go_wp2_with fail
        refine (C1.out _).mono ?_
        rintro e wf ⟨rfl, hb⟩
        have HT2 := hid (HT.out.under hb)
        have HU2 := hid (HU.out.under hb)
        have hk2 := hk.below hb
        clear hk g0 g1 g2 g3 a0 a1 a2 a3
        have hk := hk2
        clear hk2
        clear hb HT HU
        have HT := hid HT2.out
        have HU := hid HU2.out
        clear HT2 HU2
        obtain ⟨g0, g1, g2, g3, _⟩ := hk.x.box
        obtain ⟨a0, a1, a2, a3, _⟩ := (hk.a _ _ _ _ _ rfl).1.box
        go_wp2_with fail
        refine (C2.out _).mono ?_
        rintro e wh ⟨rfl, hb⟩
        have HT2 := hid (HT.out.under hb)
        have HU2 := hid (HU.out.under hb)
        have hk2 := hk.below hb
        clear hk g0 g1 g2 g3 a0 a1 a2 a3
        have hk := hk2
        clear hk2
        clear hb HT HU
        have HT := hid HT2.out
        have HU := hid HU2.out
        clear HT2 HU2
        go_wp2_with fail
        refine (cKx.out _ (HBR.out _ _ _ _ _ _ _ hk)).mono ?_
        rintro e wk ⟨rfl, hb⟩
        obtain ⟨t0, t1, t2, t3, _⟩ := (HT.out.under hb).box
        obtain ⟨u0, u1, u2, u3, _⟩ := (HU.out.under hb).box
        have hk2 := hk.below hb
        clear hb hk HT HU
        go_wp2
        go_ret
        exact ⟨rfl, HBR.out _ _ _ _ _ _ _ hk2⟩
  · rw [decide_eq_false hl] at cL
    clear hE hDy hW hRD h
    go_enter Tryz.func4, Tryz.ntmps4
    go_wp2_with fail
    refine cL.mono ?_
    rintro e w' ⟨rfl, rfl⟩
    go_wp2_with fail
    refine (cK.out _ (Below.refl _ _)).mono ?_
    rintro e w1 ⟨rfl, hb1⟩
    have HB1 := hid hb1
    clear hb1
    go_wp2
    go_ret
    exact ⟨rfl, HB1.out⟩
end Go.Proofs.YtaijbdknaeeoeaaGreatDoor
