/-
  Odd grids and odd times: OddGrid and OddTime of timetablemade.Dice. Conditions: the dice lie in memory; the numbers that came are small.
-/
import Derived.Test.YtaijbdknaeeoeaaDoorM1
set_option linter.unusedVariables false
namespace Go.Proofs.YtaijbdknaeeoeaaDoor
open Go Go.Proofs Go.RowKit Go.Lib

def Small4 (a b x d : Int) : Prop := (-4611686018427387904 ≤ a ∧ a ≤ 4611686018427387904) ∧ (-4611686018427387904 ≤ b ∧ b ≤ 4611686018427387904) ∧ (-4611686018427387904 ≤ x ∧ x ≤ 4611686018427387904) ∧ (-4611686018427387904 ≤ d ∧ d ≤ 4611686018427387904)
/-- The box, the result's block, the dice. -/
structure OK (T : TypeId) (w0 : World) (g c : Nat) (A : Option Addr) (L : List Int) (a b x d : Int) (k : Nat) (w : World) : Prop where
  e : DE w0 g c A L k w
  z : Cells4 T w w0.heap.size a b x d
  o : Cells4 T w (w0.heap.size + 1) 0 0 0 0
  g0 : g < w0.heap.size
section
variable {T : TypeId} {w0 w w' : World} {g c k k' : Nat} {A : Option Addr} {L : List Int} {a b x d : Int}
theorem OK.below (h : OK T w0 g c A L a b x d k w) (hb : Below w.heap.size w w') : OK T w0 g c A L a b x d k w' := ⟨h.e.below (hb.mono h.e.p.size) h.g0, h.z.under hb, h.o.under hb, h.g0⟩
theorem OK.roll (h : OK T w0 g c A L a b x d k w) (hd : DiceAt w' g A L c k') (hr : Rolled g w w') : OK T w0 g c A L a b x d k' w' := by
  have := h.g0
  exact ⟨h.e.next hd hr, h.z.roll hr (by omega), h.o.roll hr (by omega), h.g0⟩
theorem OK.set0 (h : OK T w0 g c A L a b x d k w) (v : Int) : OK T w0 g c A L v b x d k (w.setCell ⟨w0.heap.size, 0, none⟩ (.int .i64 v)) := ⟨h.e.set _ _ _ (Nat.le_refl _) h.g0, h.z.set0 v, h.o.other _ _ _ (by omega), h.g0⟩
theorem OK.set1 (h : OK T w0 g c A L a b x d k w) (v : Int) : OK T w0 g c A L a v x d k (w.setCell ⟨w0.heap.size, 1, none⟩ (.int .i64 v)) := ⟨h.e.set _ _ _ (Nat.le_refl _) h.g0, h.z.set1 v, h.o.other _ _ _ (by omega), h.g0⟩
theorem OK.set2 (h : OK T w0 g c A L a b x d k w) (v : Int) : OK T w0 g c A L a b v d k (w.setCell ⟨w0.heap.size, 2, none⟩ (.int .i64 v)) := ⟨h.e.set _ _ _ (Nat.le_refl _) h.g0, h.z.set2 v, h.o.other _ _ _ (by omega), h.g0⟩
theorem OK.set3 (h : OK T w0 g c A L a b x d k w) (v : Int) : OK T w0 g c A L a b x v k (w.setCell ⟨w0.heap.size, 3, none⟩ (.int .i64 v)) := ⟨h.e.set _ _ _ (Nat.le_refl _) h.g0, h.z.set3 v, h.o.other _ _ _ (by omega), h.g0⟩
theorem OK.fin (h : OK T w0 g c A L a b x d k w) (W : World) (hW : W = ((((w.setCell ⟨w0.heap.size + 1, 0, none⟩ (.int .i64 a)).setCell ⟨w0.heap.size + 1, 1, none⟩ (.int .i64 b)).setCell ⟨w0.heap.size + 1, 2, none⟩ (.int .i64 x)).setCell ⟨w0.heap.size + 1, 3, none⟩ (.int .i64 d))) :
    Cells4 T W (w0.heap.size + 1) a b x d ∧ DE w0 g c A L k W := by
  subst hW
  have := h.g0
  exact ⟨h.o.all _ _ _ _, (((h.e.set _ _ _ (by omega) (by omega)).set _ _ _ (by omega) (by omega)).set _ _ _ (by omega) (by omega)).set _ _ _ (by omega) (by omega)⟩
end
theorem OK.first {w : World} {g c k : Nat} {A : Option Addr} {L : List Int} (h : DiceAt w g A L c k) (a b x d : Int) (T : TypeId) :
    OK T w g c A L a b x d k ((w.alloc (.cells #[.int .i64 a, .int .i64 b, .int .i64 x, .int .i64 d] T)).alloc (.cells #[.int .i64 0, .int .i64 0, .int .i64 0, .int .i64 0] T)) := by
  have h1 := Cells4.new w a b x d T
  have he := (DE.first h).alloc (.cells #[.int .i64 a, .int .i64 b, .int .i64 x, .int .i64 d] T)
  have hs : (w.alloc (.cells #[.int .i64 a, .int .i64 b, .int .i64 x, .int .i64 d] T)).heap.size = w.heap.size + 1 := by simp
  generalize w.alloc (.cells #[.int .i64 a, .int .i64 b, .int .i64 x, .int .i64 d] T) = w1 at h1 he hs ⊢
  have h2 := Cells4.new w1 0 0 0 0 T
  rw [hs] at h2
  exact ⟨he.alloc _, h1.under ((Below.refl _ w1).alloc (Nat.le_refl _) _), h2, h.lt⟩
def oddTimeTab0 : List Int := [0, -1, 1048576, 1048575]
theorem oddTimeTab0_bd (m : Nat) (hm : m < 4) : -4611686018427387904 ≤ oddTimeTab0.getD m 0 ∧ oddTimeTab0.getD m 0 ≤ 4611686018427387904 := by
  rcases (show m = 0 ∨ m = 1 ∨ m = 2 ∨ m = 3 by omega) with e | e | e | e
  all_goals (subst e; decide)
def oddTimeTab1 : List Int := [-1, 6, 7]
theorem oddTimeTab1_bd (m : Nat) (hm : m < 3) : -4611686018427387904 ≤ oddTimeTab1.getD m 0 ∧ oddTimeTab1.getD m 0 ≤ 4611686018427387904 := by
  rcases (show m = 0 ∨ m = 1 ∨ m = 2 by omega) with e | e | e
  all_goals (subst e; decide)
def oddTimeTab2 : List Int := [-1, 23, 24, 4611686018427387904]
theorem oddTimeTab2_bd (m : Nat) (hm : m < 4) : -4611686018427387904 ≤ oddTimeTab2.getD m 0 ∧ oddTimeTab2.getD m 0 ≤ 4611686018427387904 := by
  rcases (show m = 0 ∨ m = 1 ∨ m = 2 ∨ m = 3 by omega) with e | e | e | e
  all_goals (subst e; decide)
def oddTimeTab3 : List Int := [0, 24, 25, -1, 4611686018427387904]
theorem oddTimeTab3_bd (m : Nat) (hm : m < 5) : -4611686018427387904 ≤ oddTimeTab3.getD m 0 ∧ oddTimeTab3.getD m 0 ≤ 4611686018427387904 := by
  rcases (show m = 0 ∨ m = 1 ∨ m = 2 ∨ m = 3 ∨ m = 4 by omega) with e | e | e | e | e
  all_goals (subst e; decide)
set_option maxHeartbeats 8000000 in
set_option maxRecDepth 100000 in
theorem oddTime_any (g c k : Nat) (A : Option Addr) (L : List Int) (a b x d : Int) (hs : Small4 a b x d) (w : World) (h : DiceAt w g A L c k) :
    Calls Tryd.prog 44 #[.pointer (some ⟨g, 0, none⟩), .agg #[.int .i64 a, .int .i64 b, .int .i64 x, .int .i64 d]] w (FourP Small4 g c A L w) := by
  obtain ⟨s0, s1, s2, s3⟩ := hs
  have HN := hid (fun (W : World) k n hn (h : DiceAt W g A L c k) => next_at g c k A L n hn W h)
  have HOK := hid (OK.first h a b x d 46)
  clear h
  go_enter Tryd.func44, Tryd.ntmps44
  go_wp2_with fail
  generalize (w.alloc (.cells #[.int .i64 a, .int .i64 b, .int .i64 x, .int .i64 d] 46)).alloc (.cells #[.int .i64 0, .int .i64 0, .int .i64 0, .int .i64 0] 46) = w1 at HOK ⊢
  refine (HN.out _ _ _ (by omega) HOK.out.e.d).mono ?_
  rintro e w2 ⟨rfl, hd2, hR2⟩
  obtain ⟨r, hr⟩ : ∃ r, rollV L k 4 = r := ⟨_, rfl⟩
  rw [hr]
  have HK := hid (HOK.out.roll hd2 hR2)
  generalize rollK L k = k2 at HK
  clear hr hd2 hR2 HOK
  by_cases e0 : r = 0
  · subst e0
    have HK3 := hid (HK.out.below ((Below.refl _ w2).alloc (Nat.le_refl _) (.cells #[.int .i64 0, .int .i64 (-1), .int .i64 1048576, .int .i64 1048575] 3)))
    have HN3 := hid (heap_alloc_new w2 (.cells #[.int .i64 0, .int .i64 (-1), .int .i64 1048576, .int .i64 1048575] 3))
    have hge := HK.out.o.lt
    go_wp2_with fail
    generalize w2.alloc (.cells #[.int .i64 0, .int .i64 (-1), .int .i64 1048576, .int .i64 1048575] 3) = w3 at HK3 HN3 ⊢
    refine (HN.out _ _ _ (by omega) HK3.out.e.d).mono ?_
    rintro e w4 ⟨rfl, hd4, hR4⟩
    obtain ⟨q, hq⟩ : ∃ q, rollV L k2 4 = q := ⟨_, rfl⟩
    have hqq := rollV_range L k2 4 (by omega)
    rw [hq] at hqq ⊢
    have HK4 := hid (HK3.out.roll hd4 hR4)
    have hgg := HK.out.g0
    have hN4 := (hR4.block w2.heap.size (by omega)).trans HN3.out
    generalize rollK L k2 = k4 at HK4
    obtain ⟨m, rfl⟩ : ∃ m : Nat, q = (m : Int) := ⟨q.toNat, by omega⟩
    have hc : w4.cell? ⟨w2.heap.size, m, none⟩ = some (.int .i64 (oddTimeTab0.getD m 0)) := by
      rw [Lib.cell_of_heap hN4]
      rcases (show m = 0 ∨ m = 1 ∨ m = 2 ∨ m = 3 by omega) with e | e | e | e <;> subst e <;> rfl
    have hvb := oddTimeTab0_bd m (by omega)
    generalize oddTimeTab0.getD m 0 = V at hc hvb
    clear hq hd4 hR4 HK3 HN3 hN4 HK
    obtain ⟨z0, z1, z2, z3, _⟩ := HK4.out.z.box
    obtain ⟨o0, o1, o2, o3, _⟩ := HK4.out.o.box
    have f0 := HK4.out.z.free 0
    have p0 := HK4.out.o.free 0
    have f1 := HK4.out.z.free 1
    have p1 := HK4.out.o.free 1
    have f2 := HK4.out.z.free 2
    have p2 := HK4.out.o.free 2
    have f3 := HK4.out.z.free 3
    have p3 := HK4.out.o.free 3
    go_wp2_with fail
    have hf := (HK4.out.set0 (V)).fin _ rfl
    refine bodyPost_ret (v := .agg #[.int .i64 (V), .int .i64 (b), .int .i64 (x), .int .i64 (d)]) (results_c rfl _ _ _ ⟨w.heap.size + 1, 0, none⟩ _ rfl (load_time hf.1)) rfl ?_
    exact ⟨_, _, _, _, _, rfl, ⟨by omega, by omega, by omega, by omega⟩, hf.2⟩
  · have e0' : (r == 0) = false := by simpa using e0
    by_cases e1 : r = 1
    · subst e1
      have HK3 := hid (HK.out.below ((Below.refl _ w2).alloc (Nat.le_refl _) (.cells #[.int .i64 (-1), .int .i64 6, .int .i64 7] 3)))
      have HN3 := hid (heap_alloc_new w2 (.cells #[.int .i64 (-1), .int .i64 6, .int .i64 7] 3))
      have hge := HK.out.o.lt
      go_wp2_with fail
      generalize w2.alloc (.cells #[.int .i64 (-1), .int .i64 6, .int .i64 7] 3) = w3 at HK3 HN3 ⊢
      refine (HN.out _ _ _ (by omega) HK3.out.e.d).mono ?_
      rintro e w4 ⟨rfl, hd4, hR4⟩
      obtain ⟨q, hq⟩ : ∃ q, rollV L k2 3 = q := ⟨_, rfl⟩
      have hqq := rollV_range L k2 3 (by omega)
      rw [hq] at hqq ⊢
      have HK4 := hid (HK3.out.roll hd4 hR4)
      have hgg := HK.out.g0
      have hN4 := (hR4.block w2.heap.size (by omega)).trans HN3.out
      generalize rollK L k2 = k4 at HK4
      obtain ⟨m, rfl⟩ : ∃ m : Nat, q = (m : Int) := ⟨q.toNat, by omega⟩
      have hc : w4.cell? ⟨w2.heap.size, m, none⟩ = some (.int .i64 (oddTimeTab1.getD m 0)) := by
        rw [Lib.cell_of_heap hN4]
        rcases (show m = 0 ∨ m = 1 ∨ m = 2 by omega) with e | e | e <;> subst e <;> rfl
      have hvb := oddTimeTab1_bd m (by omega)
      generalize oddTimeTab1.getD m 0 = V at hc hvb
      clear hq hd4 hR4 HK3 HN3 hN4 HK
      obtain ⟨z0, z1, z2, z3, _⟩ := HK4.out.z.box
      obtain ⟨o0, o1, o2, o3, _⟩ := HK4.out.o.box
      have f0 := HK4.out.z.free 0
      have p0 := HK4.out.o.free 0
      have f1 := HK4.out.z.free 1
      have p1 := HK4.out.o.free 1
      have f2 := HK4.out.z.free 2
      have p2 := HK4.out.o.free 2
      have f3 := HK4.out.z.free 3
      have p3 := HK4.out.o.free 3
      go_wp2_with fail
      have hf := (HK4.out.set1 (V)).fin _ rfl
      refine bodyPost_ret (v := .agg #[.int .i64 (a), .int .i64 (V), .int .i64 (x), .int .i64 (d)]) (results_c rfl _ _ _ ⟨w.heap.size + 1, 0, none⟩ _ rfl (load_time hf.1)) rfl ?_
      exact ⟨_, _, _, _, _, rfl, ⟨by omega, by omega, by omega, by omega⟩, hf.2⟩
    · have e1' : (r == 1) = false := by simpa using e1
      by_cases e2 : r = 2
      · subst e2
        have HK3 := hid (HK.out.below ((Below.refl _ w2).alloc (Nat.le_refl _) (.cells #[.int .i64 (-1), .int .i64 23, .int .i64 24, .int .i64 4611686018427387904] 3)))
        have HN3 := hid (heap_alloc_new w2 (.cells #[.int .i64 (-1), .int .i64 23, .int .i64 24, .int .i64 4611686018427387904] 3))
        have hge := HK.out.o.lt
        go_wp2_with fail
        generalize w2.alloc (.cells #[.int .i64 (-1), .int .i64 23, .int .i64 24, .int .i64 4611686018427387904] 3) = w3 at HK3 HN3 ⊢
        refine (HN.out _ _ _ (by omega) HK3.out.e.d).mono ?_
        rintro e w4 ⟨rfl, hd4, hR4⟩
        obtain ⟨q, hq⟩ : ∃ q, rollV L k2 4 = q := ⟨_, rfl⟩
        have hqq := rollV_range L k2 4 (by omega)
        rw [hq] at hqq ⊢
        have HK4 := hid (HK3.out.roll hd4 hR4)
        have hgg := HK.out.g0
        have hN4 := (hR4.block w2.heap.size (by omega)).trans HN3.out
        generalize rollK L k2 = k4 at HK4
        obtain ⟨m, rfl⟩ : ∃ m : Nat, q = (m : Int) := ⟨q.toNat, by omega⟩
        have hc : w4.cell? ⟨w2.heap.size, m, none⟩ = some (.int .i64 (oddTimeTab2.getD m 0)) := by
          rw [Lib.cell_of_heap hN4]
          rcases (show m = 0 ∨ m = 1 ∨ m = 2 ∨ m = 3 by omega) with e | e | e | e <;> subst e <;> rfl
        have hvb := oddTimeTab2_bd m (by omega)
        generalize oddTimeTab2.getD m 0 = V at hc hvb
        clear hq hd4 hR4 HK3 HN3 hN4 HK
        obtain ⟨z0, z1, z2, z3, _⟩ := HK4.out.z.box
        obtain ⟨o0, o1, o2, o3, _⟩ := HK4.out.o.box
        have f0 := HK4.out.z.free 0
        have p0 := HK4.out.o.free 0
        have f1 := HK4.out.z.free 1
        have p1 := HK4.out.o.free 1
        have f2 := HK4.out.z.free 2
        have p2 := HK4.out.o.free 2
        have f3 := HK4.out.z.free 3
        have p3 := HK4.out.o.free 3
        go_wp2_with fail
        have hf := (HK4.out.set2 (V)).fin _ rfl
        refine bodyPost_ret (v := .agg #[.int .i64 (a), .int .i64 (b), .int .i64 (V), .int .i64 (d)]) (results_c rfl _ _ _ ⟨w.heap.size + 1, 0, none⟩ _ rfl (load_time hf.1)) rfl ?_
        exact ⟨_, _, _, _, _, rfl, ⟨by omega, by omega, by omega, by omega⟩, hf.2⟩
      · have e2' : (r == 2) = false := by simpa using e2
        have HK3 := hid (HK.out.below ((Below.refl _ w2).alloc (Nat.le_refl _) (.cells #[.int .i64 0, .int .i64 24, .int .i64 25, .int .i64 (-1), .int .i64 4611686018427387904] 3)))
        have HN3 := hid (heap_alloc_new w2 (.cells #[.int .i64 0, .int .i64 24, .int .i64 25, .int .i64 (-1), .int .i64 4611686018427387904] 3))
        have hge := HK.out.o.lt
        go_wp2_with fail
        generalize w2.alloc (.cells #[.int .i64 0, .int .i64 24, .int .i64 25, .int .i64 (-1), .int .i64 4611686018427387904] 3) = w3 at HK3 HN3 ⊢
        refine (HN.out _ _ _ (by omega) HK3.out.e.d).mono ?_
        rintro e w4 ⟨rfl, hd4, hR4⟩
        obtain ⟨q, hq⟩ : ∃ q, rollV L k2 5 = q := ⟨_, rfl⟩
        have hqq := rollV_range L k2 5 (by omega)
        rw [hq] at hqq ⊢
        have HK4 := hid (HK3.out.roll hd4 hR4)
        have hgg := HK.out.g0
        have hN4 := (hR4.block w2.heap.size (by omega)).trans HN3.out
        generalize rollK L k2 = k4 at HK4
        obtain ⟨m, rfl⟩ : ∃ m : Nat, q = (m : Int) := ⟨q.toNat, by omega⟩
        have hc : w4.cell? ⟨w2.heap.size, m, none⟩ = some (.int .i64 (oddTimeTab3.getD m 0)) := by
          rw [Lib.cell_of_heap hN4]
          rcases (show m = 0 ∨ m = 1 ∨ m = 2 ∨ m = 3 ∨ m = 4 by omega) with e | e | e | e | e <;> subst e <;> rfl
        have hvb := oddTimeTab3_bd m (by omega)
        generalize oddTimeTab3.getD m 0 = V at hc hvb
        clear hq hd4 hR4 HK3 HN3 hN4 HK
        obtain ⟨z0, z1, z2, z3, _⟩ := HK4.out.z.box
        obtain ⟨o0, o1, o2, o3, _⟩ := HK4.out.o.box
        have f0 := HK4.out.z.free 0
        have p0 := HK4.out.o.free 0
        have f1 := HK4.out.z.free 1
        have p1 := HK4.out.o.free 1
        have f2 := HK4.out.z.free 2
        have p2 := HK4.out.o.free 2
        have f3 := HK4.out.z.free 3
        have p3 := HK4.out.o.free 3
        go_wp2_with fail
        have hf := (HK4.out.set3 (V)).fin _ rfl
        refine bodyPost_ret (v := .agg #[.int .i64 (a), .int .i64 (b), .int .i64 (x), .int .i64 (V)]) (results_c rfl _ _ _ ⟨w.heap.size + 1, 0, none⟩ _ rfl (load_time hf.1)) rfl ?_
        exact ⟨_, _, _, _, _, rfl, ⟨by omega, by omega, by omega, by omega⟩, hf.2⟩
def oddGridTab1 : List Int := [0, 24, 25, -1]
theorem oddGridTab1_bd (m : Nat) (hm : m < 4) : -4611686018427387904 ≤ oddGridTab1.getD m 0 ∧ oddGridTab1.getD m 0 ≤ 4611686018427387904 := by
  rcases (show m = 0 ∨ m = 1 ∨ m = 2 ∨ m = 3 by omega) with e | e | e | e
  all_goals (subst e; decide)
def oddGridTab2 : List Int := [-1, 0, 1439, 1440]
theorem oddGridTab2_bd (m : Nat) (hm : m < 4) : -4611686018427387904 ≤ oddGridTab2.getD m 0 ∧ oddGridTab2.getD m 0 ≤ 4611686018427387904 := by
  rcases (show m = 0 ∨ m = 1 ∨ m = 2 ∨ m = 3 by omega) with e | e | e | e
  all_goals (subst e; decide)
def oddGridTab3 : List Int := [4, 5, 120, 121]
theorem oddGridTab3_bd (m : Nat) (hm : m < 4) : -4611686018427387904 ≤ oddGridTab3.getD m 0 ∧ oddGridTab3.getD m 0 ≤ 4611686018427387904 := by
  rcases (show m = 0 ∨ m = 1 ∨ m = 2 ∨ m = 3 by omega) with e | e | e | e
  all_goals (subst e; decide)
set_option maxHeartbeats 8000000 in
set_option maxRecDepth 100000 in
theorem oddGrid_any (g c k : Nat) (A : Option Addr) (L : List Int) (a b x d : Int) (hs : Small4 a b x d) (w : World) (h : DiceAt w g A L c k) :
    Calls Tryd.prog 45 #[.pointer (some ⟨g, 0, none⟩), .agg #[.int .i64 a, .int .i64 b, .int .i64 x, .int .i64 d]] w (FourP Small4 g c A L w) := by
  obtain ⟨s0, s1, s2, s3⟩ := hs
  have HN := hid (fun (W : World) k n hn (h : DiceAt W g A L c k) => next_at g c k A L n hn W h)
  have HOK := hid (OK.first h a b x d 44)
  clear h
  go_enter Tryd.func45, Tryd.ntmps45
  go_wp2_with fail
  generalize (w.alloc (.cells #[.int .i64 a, .int .i64 b, .int .i64 x, .int .i64 d] 44)).alloc (.cells #[.int .i64 0, .int .i64 0, .int .i64 0, .int .i64 0] 44) = w1 at HOK ⊢
  refine (HN.out _ _ _ (by omega) HOK.out.e.d).mono ?_
  rintro e w2 ⟨rfl, hd2, hR2⟩
  obtain ⟨r, hr⟩ : ∃ r, rollV L k 4 = r := ⟨_, rfl⟩
  rw [hr]
  have HK := hid (HOK.out.roll hd2 hR2)
  generalize rollK L k = k2 at HK
  clear hr hd2 hR2 HOK
  by_cases e0 : r = 0
  · subst e0
    go_wp2_with fail
    refine (HN.out _ _ _ (by omega) HK.out.e.d).mono ?_
    rintro e w4 ⟨rfl, hd4, hR4⟩
    obtain ⟨q, hq⟩ : ∃ q, rollV L k2 10 = q := ⟨_, rfl⟩
    have hqq := rollV_range L k2 10 (by omega)
    rw [hq] at hqq ⊢
    have HK4 := hid (HK.out.roll hd4 hR4)
    generalize rollK L k2 = k4 at HK4
    have v1 : IntKind.i64.wrap (q - 1) = q - 1 := IntWalk.i64_in _ (by omega)
    clear hq hd4 hR4 HK
    obtain ⟨z0, z1, z2, z3, _⟩ := HK4.out.z.box
    obtain ⟨o0, o1, o2, o3, _⟩ := HK4.out.o.box
    have f0 := HK4.out.z.free 0
    have p0 := HK4.out.o.free 0
    have f1 := HK4.out.z.free 1
    have p1 := HK4.out.o.free 1
    have f2 := HK4.out.z.free 2
    have p2 := HK4.out.o.free 2
    have f3 := HK4.out.z.free 3
    have p3 := HK4.out.o.free 3
    go_wp2_with fail
    have hf := (HK4.out.set0 (q - 1)).fin _ rfl
    refine bodyPost_ret (v := .agg #[.int .i64 (q - 1), .int .i64 (b), .int .i64 (x), .int .i64 (d)]) (results_c rfl _ _ _ ⟨w.heap.size + 1, 0, none⟩ _ rfl (load_grid hf.1)) rfl ?_
    exact ⟨_, _, _, _, _, rfl, ⟨by omega, by omega, by omega, by omega⟩, hf.2⟩
  · have e0' : (r == 0) = false := by simpa using e0
    by_cases e1 : r = 1
    · subst e1
      have HK3 := hid (HK.out.below ((Below.refl _ w2).alloc (Nat.le_refl _) (.cells #[.int .i64 0, .int .i64 24, .int .i64 25, .int .i64 (-1)] 3)))
      have HN3 := hid (heap_alloc_new w2 (.cells #[.int .i64 0, .int .i64 24, .int .i64 25, .int .i64 (-1)] 3))
      have hge := HK.out.o.lt
      go_wp2_with fail
      generalize w2.alloc (.cells #[.int .i64 0, .int .i64 24, .int .i64 25, .int .i64 (-1)] 3) = w3 at HK3 HN3 ⊢
      refine (HN.out _ _ _ (by omega) HK3.out.e.d).mono ?_
      rintro e w4 ⟨rfl, hd4, hR4⟩
      obtain ⟨q, hq⟩ : ∃ q, rollV L k2 4 = q := ⟨_, rfl⟩
      have hqq := rollV_range L k2 4 (by omega)
      rw [hq] at hqq ⊢
      have HK4 := hid (HK3.out.roll hd4 hR4)
      have hgg := HK.out.g0
      have hN4 := (hR4.block w2.heap.size (by omega)).trans HN3.out
      generalize rollK L k2 = k4 at HK4
      obtain ⟨m, rfl⟩ : ∃ m : Nat, q = (m : Int) := ⟨q.toNat, by omega⟩
      have hc : w4.cell? ⟨w2.heap.size, m, none⟩ = some (.int .i64 (oddGridTab1.getD m 0)) := by
        rw [Lib.cell_of_heap hN4]
        rcases (show m = 0 ∨ m = 1 ∨ m = 2 ∨ m = 3 by omega) with e | e | e | e <;> subst e <;> rfl
      have hvb := oddGridTab1_bd m (by omega)
      generalize oddGridTab1.getD m 0 = V at hc hvb
      clear hq hd4 hR4 HK3 HN3 hN4 HK
      obtain ⟨z0, z1, z2, z3, _⟩ := HK4.out.z.box
      obtain ⟨o0, o1, o2, o3, _⟩ := HK4.out.o.box
      have f0 := HK4.out.z.free 0
      have p0 := HK4.out.o.free 0
      have f1 := HK4.out.z.free 1
      have p1 := HK4.out.o.free 1
      have f2 := HK4.out.z.free 2
      have p2 := HK4.out.o.free 2
      have f3 := HK4.out.z.free 3
      have p3 := HK4.out.o.free 3
      go_wp2_with fail
      have hf := (HK4.out.set1 (V)).fin _ rfl
      refine bodyPost_ret (v := .agg #[.int .i64 (a), .int .i64 (V), .int .i64 (x), .int .i64 (d)]) (results_c rfl _ _ _ ⟨w.heap.size + 1, 0, none⟩ _ rfl (load_grid hf.1)) rfl ?_
      exact ⟨_, _, _, _, _, rfl, ⟨by omega, by omega, by omega, by omega⟩, hf.2⟩
    · have e1' : (r == 1) = false := by simpa using e1
      by_cases e2 : r = 2
      · subst e2
        have HK3 := hid (HK.out.below ((Below.refl _ w2).alloc (Nat.le_refl _) (.cells #[.int .i64 (-1), .int .i64 0, .int .i64 1439, .int .i64 1440] 3)))
        have HN3 := hid (heap_alloc_new w2 (.cells #[.int .i64 (-1), .int .i64 0, .int .i64 1439, .int .i64 1440] 3))
        have hge := HK.out.o.lt
        go_wp2_with fail
        generalize w2.alloc (.cells #[.int .i64 (-1), .int .i64 0, .int .i64 1439, .int .i64 1440] 3) = w3 at HK3 HN3 ⊢
        refine (HN.out _ _ _ (by omega) HK3.out.e.d).mono ?_
        rintro e w4 ⟨rfl, hd4, hR4⟩
        obtain ⟨q, hq⟩ : ∃ q, rollV L k2 4 = q := ⟨_, rfl⟩
        have hqq := rollV_range L k2 4 (by omega)
        rw [hq] at hqq ⊢
        have HK4 := hid (HK3.out.roll hd4 hR4)
        have hgg := HK.out.g0
        have hN4 := (hR4.block w2.heap.size (by omega)).trans HN3.out
        generalize rollK L k2 = k4 at HK4
        obtain ⟨m, rfl⟩ : ∃ m : Nat, q = (m : Int) := ⟨q.toNat, by omega⟩
        have hc : w4.cell? ⟨w2.heap.size, m, none⟩ = some (.int .i64 (oddGridTab2.getD m 0)) := by
          rw [Lib.cell_of_heap hN4]
          rcases (show m = 0 ∨ m = 1 ∨ m = 2 ∨ m = 3 by omega) with e | e | e | e <;> subst e <;> rfl
        have hvb := oddGridTab2_bd m (by omega)
        generalize oddGridTab2.getD m 0 = V at hc hvb
        clear hq hd4 hR4 HK3 HN3 hN4 HK
        obtain ⟨z0, z1, z2, z3, _⟩ := HK4.out.z.box
        obtain ⟨o0, o1, o2, o3, _⟩ := HK4.out.o.box
        have f0 := HK4.out.z.free 0
        have p0 := HK4.out.o.free 0
        have f1 := HK4.out.z.free 1
        have p1 := HK4.out.o.free 1
        have f2 := HK4.out.z.free 2
        have p2 := HK4.out.o.free 2
        have f3 := HK4.out.z.free 3
        have p3 := HK4.out.o.free 3
        go_wp2_with fail
        have hf := (HK4.out.set2 (V)).fin _ rfl
        refine bodyPost_ret (v := .agg #[.int .i64 (a), .int .i64 (b), .int .i64 (V), .int .i64 (d)]) (results_c rfl _ _ _ ⟨w.heap.size + 1, 0, none⟩ _ rfl (load_grid hf.1)) rfl ?_
        exact ⟨_, _, _, _, _, rfl, ⟨by omega, by omega, by omega, by omega⟩, hf.2⟩
      · have e2' : (r == 2) = false := by simpa using e2
        have HK3 := hid (HK.out.below ((Below.refl _ w2).alloc (Nat.le_refl _) (.cells #[.int .i64 4, .int .i64 5, .int .i64 120, .int .i64 121] 3)))
        have HN3 := hid (heap_alloc_new w2 (.cells #[.int .i64 4, .int .i64 5, .int .i64 120, .int .i64 121] 3))
        have hge := HK.out.o.lt
        go_wp2_with fail
        generalize w2.alloc (.cells #[.int .i64 4, .int .i64 5, .int .i64 120, .int .i64 121] 3) = w3 at HK3 HN3 ⊢
        refine (HN.out _ _ _ (by omega) HK3.out.e.d).mono ?_
        rintro e w4 ⟨rfl, hd4, hR4⟩
        obtain ⟨q, hq⟩ : ∃ q, rollV L k2 4 = q := ⟨_, rfl⟩
        have hqq := rollV_range L k2 4 (by omega)
        rw [hq] at hqq ⊢
        have HK4 := hid (HK3.out.roll hd4 hR4)
        have hgg := HK.out.g0
        have hN4 := (hR4.block w2.heap.size (by omega)).trans HN3.out
        generalize rollK L k2 = k4 at HK4
        obtain ⟨m, rfl⟩ : ∃ m : Nat, q = (m : Int) := ⟨q.toNat, by omega⟩
        have hc : w4.cell? ⟨w2.heap.size, m, none⟩ = some (.int .i64 (oddGridTab3.getD m 0)) := by
          rw [Lib.cell_of_heap hN4]
          rcases (show m = 0 ∨ m = 1 ∨ m = 2 ∨ m = 3 by omega) with e | e | e | e <;> subst e <;> rfl
        have hvb := oddGridTab3_bd m (by omega)
        generalize oddGridTab3.getD m 0 = V at hc hvb
        clear hq hd4 hR4 HK3 HN3 hN4 HK
        obtain ⟨z0, z1, z2, z3, _⟩ := HK4.out.z.box
        obtain ⟨o0, o1, o2, o3, _⟩ := HK4.out.o.box
        have f0 := HK4.out.z.free 0
        have p0 := HK4.out.o.free 0
        have f1 := HK4.out.z.free 1
        have p1 := HK4.out.o.free 1
        have f2 := HK4.out.z.free 2
        have p2 := HK4.out.o.free 2
        have f3 := HK4.out.z.free 3
        have p3 := HK4.out.o.free 3
        go_wp2_with fail
        have hf := (HK4.out.set3 (V)).fin _ rfl
        refine bodyPost_ret (v := .agg #[.int .i64 (a), .int .i64 (b), .int .i64 (x), .int .i64 (V)]) (results_c rfl _ _ _ ⟨w.heap.size + 1, 0, none⟩ _ rfl (load_grid hf.1)) rfl ?_
        exact ⟨_, _, _, _, _, rfl, ⟨by omega, by omega, by omega, by omega⟩, hf.2⟩
end Go.Proofs.YtaijbdknaeeoeaaDoor
