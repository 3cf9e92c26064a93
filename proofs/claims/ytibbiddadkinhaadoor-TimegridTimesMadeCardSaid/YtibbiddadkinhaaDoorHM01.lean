/-
  The made texts: Light, Roll, One, Text of package timetablemade. Conditions: the numbers lie in memory as a slice of ints.
  Odd grids and odd times: OddGrid and OddTime of timetablemade.Dice. Conditions: the dice lie in memory; the numbers that came are small.
  What holds while two made times are laid down: the dice, the grid's block, the blocks of the times. No program beyond the types' facts.
-/
import Derived.Test.YtibbiddadkinhaaDoorHT01
import Derived.Test.YtibbiddadkinhaaDoorHT02
import Derived.Test.YtibbiddadkinhaaDoorHT03
import Derived.Test.YtibbiddadkinhaaDoorHT04
import Derived.Test.YtibbiddadkinhaaDoorHT05
import Derived.Test.YtibbiddadkinhaaDoorHT06
import Derived.Test.YtibbiddadkinhaaDoorHT07
import Derived.Test.YtibbiddadkinhaaDoorHT08
import Derived.Test.YtibbiddadkinhaaDoorHT09
import Derived.Test.YtibbiddadkinhaaDoorHT10
import Derived.Test.YtibbiddadkinhaaDoorHR01
import Derived.Test.YtibbiddadkinhaaDoorHR02
import Derived.Test.YtibbiddadkinhaaDoorHR03
import Derived.Test.YtibbiddadkinhaaDoorHR04
import Derived.Test.YtibbiddadkinhaaDoorHR05
import Derived.Test.YtibbiddadkinhaaDoorProg
import Derived.WalkKit
import Derived.WalkSpells
import Derived.WalkLawsBesides
import Derived.Lib.Hide
import Derived.Deep.QuietTactic
import Derived.BigQuiet
import Derived.Laws.Rows
import Derived.OwnWalk
import Derived.Lib.BufferWrite
import Derived.Lib.UnsafeStr
import Derived.Laws.IdiomStrings
import Derived.Laws.BytesArg
import Derived.Laws.BytesString
import Derived.Laws.OwnMore
import Derived.Handy
import Derived.Laws.ResultCell
import Derived.Laws.BitsAllLaws
import Derived.Laws.BitsLemmas
import Derived.Lib.IndexLaws
import Derived.Lib.ItoaNum
import Derived.Lib.Atoi
import Derived.Deep.RegionLaw
import Derived.Deep.RegionHeld3
import Derived.Deep.MidRow
import Derived.Shelf.Strings.Builder1
import Derived.Shelf.Strings.Builder2
import Derived.Shelf.Strings.OnBuilder
import Derived.Shelf.Strings.BuilderF
import Derived.Shelf.Strings.BuilderK
import Derived.Shelf.Strings.Builder2Cap
import Derived.Shelf.Strconv.Atoi
import Derived.Shelf.Strconv.Itoa0
import Derived.Shelf.Strconv.Itoa1
import Derived.Shelf.LaysM
import Derived.Shelf.Strconv.Itoa2
import Derived.Shelf.Strconv.Itoa3
import Derived.Shelf.Strconv.AtoiErrFast
import Derived.Shelf.Strconv.ParseIntEmpty
import Derived.Shelf.Strconv.AtoiFail
import Derived.Shelf.Strconv.Clone
import Derived.Shelf.Strconv.SyntaxError
import Derived.Shelf.LaysC
import Derived.Shelf.Strconv.ToError
import Derived.Shelf.Strconv.AtoiErr
import Derived.Shelf.Strings.Search1
import Derived.Shelf.Strings.Search2
import Derived.Shelf.Strings.Search3
import Derived.Shelf.Strings.Cut
import Derived.Shelf.Strings.Shaped
import Derived.Shelf.Strings.Prefix
import Derived.Shelf.Unicode.DecodeSlow
import Derived.Shelf.Strings.BuilderCap
import Derived.Lib.AtoiErrMem
import Derived.RangeFuncNested
import Derived.RangeFuncBound
import Derived.RangeFuncCalls
import Derived.RangeFuncLeaves
import Derived.Shelf.Abstract
import Derived.Shelf.RegionOpen
import Derived.OwnWalkIn
import Derived.TacticsInMore
import Derived.LoopNIn
import Derived.LoopIn
set_option linter.unusedVariables false
namespace Go.Proofs.YtibbiddadkinhaaDoor
open Go Go.Proofs Go.RowKit Go.Lib

set_option maxHeartbeats 1000000 in
theorem one_any (g c k : Nat) (A : Option Addr) (L : List Int) (n : Int) (hn : n ≤ 4294967296) (hn1 : 1 ≤ n) (w : World) (h : DiceAt w g A L c k) :
    Calls Tryd.prog 25 #[.pointer (some ⟨g, 0, none⟩), .int .i64 n] w fun e w' => (∃ r : Bool, e = .returned (.bool r)) ∧ (∃ k', DiceAt w' g A L c k') ∧ Rolled g w w' := by
  have cN := next_any g c k A L n hn w h
  have CN := hid cN
  clear cN h
  go_enter Tryd.func25, Tryd.ntmps25
  go_wp2_with fail
  refine CN.out.mono ?_
  rintro e w1 ⟨⟨r, rfl, hr⟩, hd, hR⟩
  have HD := hid hd
  have HR := hid hR
  clear hd hR hr
  go_wp2
  go_ret
  exact ⟨⟨_, rfl⟩, HD.out, HR.out⟩
end Go.Proofs.YtibbiddadkinhaaDoor

set_option linter.unusedVariables false
namespace Go.Proofs.YtibbiddadkinhaaDoor
open Go Go.Proofs Go.RowKit Go.Lib

def Small4 (a b x d : Int) : Prop := (-4611686018427387904 ≤ a ∧ a ≤ 4611686018427387904) ∧ (-4611686018427387904 ≤ b ∧ b ≤ 4611686018427387904) ∧ (-4611686018427387904 ≤ x ∧ x ≤ 4611686018427387904) ∧ (-4611686018427387904 ≤ d ∧ d ≤ 4611686018427387904)
/-- The box, the result's block, the dice. -/
structure OK (T : TypeId) (w0 : World) (g c : Nat) (A : Option Addr) (L : List Int) (a b x d : Int) (k : Nat) (w : World) : Prop where
  e : DE w0 g c A L k w
  z : Cells4 T w w0.heap.size a b x d
  o : Cells4 T w (w0.heap.size + 1) 0 0 0 0
  g0 : g < w0.heap.size
section
variable {T : TypeId} {w0 w w' : World} {g c k k' : Nat} {A : Option Addr} {L : List Int} {a b x d : Int}
theorem OK.below (h : OK T w0 g c A L a b x d k w) (hb : Below w.heap.size w w') : OK T w0 g c A L a b x d k w' := ⟨h.e.below (hb.mono h.e.p.size) h.g0, h.z.under hb, h.o.under hb, h.g0⟩
theorem OK.roll (h : OK T w0 g c A L a b x d k w) (hd : DiceAt w' g A L c k') (hr : Rolled g w w') : OK T w0 g c A L a b x d k' w' := by
  have := h.g0
  exact ⟨h.e.next hd hr, h.z.roll hr (by omega), h.o.roll hr (by omega), h.g0⟩
theorem OK.set0 (h : OK T w0 g c A L a b x d k w) (v : Int) : OK T w0 g c A L v b x d k (w.setCell ⟨w0.heap.size, 0, none⟩ (.int .i64 v)) := ⟨h.e.set _ _ _ (Nat.le_refl _) h.g0, h.z.set0 v, h.o.other _ _ _ (by omega), h.g0⟩
theorem OK.set1 (h : OK T w0 g c A L a b x d k w) (v : Int) : OK T w0 g c A L a v x d k (w.setCell ⟨w0.heap.size, 1, none⟩ (.int .i64 v)) := ⟨h.e.set _ _ _ (Nat.le_refl _) h.g0, h.z.set1 v, h.o.other _ _ _ (by omega), h.g0⟩
theorem OK.set2 (h : OK T w0 g c A L a b x d k w) (v : Int) : OK T w0 g c A L a b v d k (w.setCell ⟨w0.heap.size, 2, none⟩ (.int .i64 v)) := ⟨h.e.set _ _ _ (Nat.le_refl _) h.g0, h.z.set2 v, h.o.other _ _ _ (by omega), h.g0⟩
theorem OK.set3 (h : OK T w0 g c A L a b x d k w) (v : Int) : OK T w0 g c A L a b x v k (w.setCell ⟨w0.heap.size, 3, none⟩ (.int .i64 v)) := ⟨h.e.set _ _ _ (Nat.le_refl _) h.g0, h.z.set3 v, h.o.other _ _ _ (by omega), h.g0⟩
theorem OK.fin (h : OK T w0 g c A L a b x d k w) (W : World) (hW : W = ((((w.setCell ⟨w0.heap.size + 1, 0, none⟩ (.int .i64 a)).setCell ⟨w0.heap.size + 1, 1, none⟩ (.int .i64 b)).setCell ⟨w0.heap.size + 1, 2, none⟩ (.int .i64 x)).setCell ⟨w0.heap.size + 1, 3, none⟩ (.int .i64 d))) :
    Cells4 T W (w0.heap.size + 1) a b x d ∧ DE w0 g c A L k W := by
  subst hW
  have := h.g0
  exact ⟨h.o.all _ _ _ _, (((h.e.set _ _ _ (by omega) (by omega)).set _ _ _ (by omega) (by omega)).set _ _ _ (by omega) (by omega)).set _ _ _ (by omega) (by omega)⟩
end
theorem OK.first {w : World} {g c k : Nat} {A : Option Addr} {L : List Int} (h : DiceAt w g A L c k) (a b x d : Int) (T : TypeId) :
    OK T w g c A L a b x d k ((w.alloc (.cells #[.int .i64 a, .int .i64 b, .int .i64 x, .int .i64 d] T)).alloc (.cells #[.int .i64 0, .int .i64 0, .int .i64 0, .int .i64 0] T)) := by
  have h1 := Cells4.new w a b x d T
  have he := (DE.first h).alloc (.cells #[.int .i64 a, .int .i64 b, .int .i64 x, .int .i64 d] T)
  have hs : (w.alloc (.cells #[.int .i64 a, .int .i64 b, .int .i64 x, .int .i64 d] T)).heap.size = w.heap.size + 1 := by simp
  generalize w.alloc (.cells #[.int .i64 a, .int .i64 b, .int .i64 x, .int .i64 d] T) = w1 at h1 he hs ⊢
  have h2 := Cells4.new w1 0 0 0 0 T
  rw [hs] at h2
  exact ⟨he.alloc _, h1.under ((Below.refl _ w1).alloc (Nat.le_refl _) _), h2, h.lt⟩
def oddTimeTab0 : List Int := [0, -1, 1048576, 1048575]
theorem oddTimeTab0_bd (m : Nat) (hm : m < 4) : -4611686018427387904 ≤ oddTimeTab0.getD m 0 ∧ oddTimeTab0.getD m 0 ≤ 4611686018427387904 := by
  rcases (show m = 0 ∨ m = 1 ∨ m = 2 ∨ m = 3 by omega) with e | e | e | e
  all_goals (subst e; decide)
def oddTimeTab1 : List Int := [-1, 6, 7]
theorem oddTimeTab1_bd (m : Nat) (hm : m < 3) : -4611686018427387904 ≤ oddTimeTab1.getD m 0 ∧ oddTimeTab1.getD m 0 ≤ 4611686018427387904 := by
  rcases (show m = 0 ∨ m = 1 ∨ m = 2 by omega) with e | e | e
  all_goals (subst e; decide)
def oddTimeTab2 : List Int := [-1, 23, 24, 4611686018427387904]
theorem oddTimeTab2_bd (m : Nat) (hm : m < 4) : -4611686018427387904 ≤ oddTimeTab2.getD m 0 ∧ oddTimeTab2.getD m 0 ≤ 4611686018427387904 := by
  rcases (show m = 0 ∨ m = 1 ∨ m = 2 ∨ m = 3 by omega) with e | e | e | e
  all_goals (subst e; decide)
def oddTimeTab3 : List Int := [0, 24, 25, -1, 4611686018427387904]
theorem oddTimeTab3_bd (m : Nat) (hm : m < 5) : -4611686018427387904 ≤ oddTimeTab3.getD m 0 ∧ oddTimeTab3.getD m 0 ≤ 4611686018427387904 := by
  rcases (show m = 0 ∨ m = 1 ∨ m = 2 ∨ m = 3 ∨ m = 4 by omega) with e | e | e | e | e
  all_goals (subst e; decide)
set_option maxHeartbeats 8000000 in
set_option maxRecDepth 100000 in
theorem oddTime_any (g c k : Nat) (A : Option Addr) (L : List Int) (a b x d : Int) (hs : Small4 a b x d) (w : World) (h : DiceAt w g A L c k) :
    Calls Tryd.prog 26 #[.pointer (some ⟨g, 0, none⟩), .agg #[.int .i64 a, .int .i64 b, .int .i64 x, .int .i64 d]] w (FourP Small4 g c A L w) := by
  obtain ⟨s0, s1, s2, s3⟩ := hs
  have HN := hid (fun (W : World) k n hn (h : DiceAt W g A L c k) => next_at g c k A L n hn W h)
  have HOK := hid (OK.first h a b x d 25)
  clear h
  go_enter Tryd.func26, Tryd.ntmps26
  go_wp2_with fail
  generalize (w.alloc (.cells #[.int .i64 a, .int .i64 b, .int .i64 x, .int .i64 d] 25)).alloc (.cells #[.int .i64 0, .int .i64 0, .int .i64 0, .int .i64 0] 25) = w1 at HOK ⊢
  refine (HN.out _ _ _ (by omega) HOK.out.e.d).mono ?_
  rintro e w2 ⟨rfl, hd2, hR2⟩
  obtain ⟨r, hr⟩ : ∃ r, rollV L k 4 = r := ⟨_, rfl⟩
  rw [hr]
  have HK := hid (HOK.out.roll hd2 hR2)
  generalize rollK L k = k2 at HK
  clear hr hd2 hR2 HOK
  by_cases e0 : r = 0
  · subst e0
    have HK3 := hid (HK.out.below ((Below.refl _ w2).alloc (Nat.le_refl _) (.cells #[.int .i64 0, .int .i64 (-1), .int .i64 1048576, .int .i64 1048575] 3)))
    have HN3 := hid (heap_alloc_new w2 (.cells #[.int .i64 0, .int .i64 (-1), .int .i64 1048576, .int .i64 1048575] 3))
    have hge := HK.out.o.lt
    go_wp2_with fail
    generalize w2.alloc (.cells #[.int .i64 0, .int .i64 (-1), .int .i64 1048576, .int .i64 1048575] 3) = w3 at HK3 HN3 ⊢
    refine (HN.out _ _ _ (by omega) HK3.out.e.d).mono ?_
    rintro e w4 ⟨rfl, hd4, hR4⟩
    obtain ⟨q, hq⟩ : ∃ q, rollV L k2 4 = q := ⟨_, rfl⟩
    have hqq := rollV_range L k2 4 (by omega)
    rw [hq] at hqq ⊢
    have HK4 := hid (HK3.out.roll hd4 hR4)
    have hgg := HK.out.g0
    have hN4 := (hR4.block w2.heap.size (by omega)).trans HN3.out
    generalize rollK L k2 = k4 at HK4
    obtain ⟨m, rfl⟩ : ∃ m : Nat, q = (m : Int) := ⟨q.toNat, by omega⟩
    have hc : w4.cell? ⟨w2.heap.size, m, none⟩ = some (.int .i64 (oddTimeTab0.getD m 0)) := by
      rw [Lib.cell_of_heap hN4]
      rcases (show m = 0 ∨ m = 1 ∨ m = 2 ∨ m = 3 by omega) with e | e | e | e <;> subst e <;> rfl
    have hvb := oddTimeTab0_bd m (by omega)
    generalize oddTimeTab0.getD m 0 = V at hc hvb
    clear hq hd4 hR4 HK3 HN3 hN4 HK
    obtain ⟨z0, z1, z2, z3, _⟩ := HK4.out.z.box
    obtain ⟨o0, o1, o2, o3, _⟩ := HK4.out.o.box
    have f0 := HK4.out.z.free 0
    have p0 := HK4.out.o.free 0
    have f1 := HK4.out.z.free 1
    have p1 := HK4.out.o.free 1
    have f2 := HK4.out.z.free 2
    have p2 := HK4.out.o.free 2
    have f3 := HK4.out.z.free 3
    have p3 := HK4.out.o.free 3
    go_wp2_with fail
    have hf := (HK4.out.set0 (V)).fin _ rfl
    refine bodyPost_ret (v := .agg #[.int .i64 (V), .int .i64 (b), .int .i64 (x), .int .i64 (d)]) (results_c rfl _ _ _ ⟨w.heap.size + 1, 0, none⟩ _ rfl (load_time hf.1)) rfl ?_
    exact ⟨_, _, _, _, _, rfl, ⟨by omega, by omega, by omega, by omega⟩, hf.2⟩
  · have e0' : (r == 0) = false := by simpa using e0
    by_cases e1 : r = 1
    · subst e1
      have HK3 := hid (HK.out.below ((Below.refl _ w2).alloc (Nat.le_refl _) (.cells #[.int .i64 (-1), .int .i64 6, .int .i64 7] 3)))
      have HN3 := hid (heap_alloc_new w2 (.cells #[.int .i64 (-1), .int .i64 6, .int .i64 7] 3))
      have hge := HK.out.o.lt
      go_wp2_with fail
      generalize w2.alloc (.cells #[.int .i64 (-1), .int .i64 6, .int .i64 7] 3) = w3 at HK3 HN3 ⊢
      refine (HN.out _ _ _ (by omega) HK3.out.e.d).mono ?_
      rintro e w4 ⟨rfl, hd4, hR4⟩
      obtain ⟨q, hq⟩ : ∃ q, rollV L k2 3 = q := ⟨_, rfl⟩
      have hqq := rollV_range L k2 3 (by omega)
      rw [hq] at hqq ⊢
      have HK4 := hid (HK3.out.roll hd4 hR4)
      have hgg := HK.out.g0
      have hN4 := (hR4.block w2.heap.size (by omega)).trans HN3.out
      generalize rollK L k2 = k4 at HK4
      obtain ⟨m, rfl⟩ : ∃ m : Nat, q = (m : Int) := ⟨q.toNat, by omega⟩
      have hc : w4.cell? ⟨w2.heap.size, m, none⟩ = some (.int .i64 (oddTimeTab1.getD m 0)) := by
        rw [Lib.cell_of_heap hN4]
        rcases (show m = 0 ∨ m = 1 ∨ m = 2 by omega) with e | e | e <;> subst e <;> rfl
      have hvb := oddTimeTab1_bd m (by omega)
      generalize oddTimeTab1.getD m 0 = V at hc hvb
      clear hq hd4 hR4 HK3 HN3 hN4 HK
      obtain ⟨z0, z1, z2, z3, _⟩ := HK4.out.z.box
      obtain ⟨o0, o1, o2, o3, _⟩ := HK4.out.o.box
      have f0 := HK4.out.z.free 0
      have p0 := HK4.out.o.free 0
      have f1 := HK4.out.z.free 1
      have p1 := HK4.out.o.free 1
      have f2 := HK4.out.z.free 2
      have p2 := HK4.out.o.free 2
      have f3 := HK4.out.z.free 3
      have p3 := HK4.out.o.free 3
      go_wp2_with fail
      have hf := (HK4.out.set1 (V)).fin _ rfl
      refine bodyPost_ret (v := .agg #[.int .i64 (a), .int .i64 (V), .int .i64 (x), .int .i64 (d)]) (results_c rfl _ _ _ ⟨w.heap.size + 1, 0, none⟩ _ rfl (load_time hf.1)) rfl ?_
      exact ⟨_, _, _, _, _, rfl, ⟨by omega, by omega, by omega, by omega⟩, hf.2⟩
    · have e1' : (r == 1) = false := by simpa using e1
      by_cases e2 : r = 2
      · subst e2
        have HK3 := hid (HK.out.below ((Below.refl _ w2).alloc (Nat.le_refl _) (.cells #[.int .i64 (-1), .int .i64 23, .int .i64 24, .int .i64 4611686018427387904] 3)))
        have HN3 := hid (heap_alloc_new w2 (.cells #[.int .i64 (-1), .int .i64 23, .int .i64 24, .int .i64 4611686018427387904] 3))
        have hge := HK.out.o.lt
        go_wp2_with fail
        generalize w2.alloc (.cells #[.int .i64 (-1), .int .i64 23, .int .i64 24, .int .i64 4611686018427387904] 3) = w3 at HK3 HN3 ⊢
        refine (HN.out _ _ _ (by omega) HK3.out.e.d).mono ?_
        rintro e w4 ⟨rfl, hd4, hR4⟩
        obtain ⟨q, hq⟩ : ∃ q, rollV L k2 4 = q := ⟨_, rfl⟩
        have hqq := rollV_range L k2 4 (by omega)
        rw [hq] at hqq ⊢
        have HK4 := hid (HK3.out.roll hd4 hR4)
        have hgg := HK.out.g0
        have hN4 := (hR4.block w2.heap.size (by omega)).trans HN3.out
        generalize rollK L k2 = k4 at HK4
        obtain ⟨m, rfl⟩ : ∃ m : Nat, q = (m : Int) := ⟨q.toNat, by omega⟩
        have hc : w4.cell? ⟨w2.heap.size, m, none⟩ = some (.int .i64 (oddTimeTab2.getD m 0)) := by
          rw [Lib.cell_of_heap hN4]
          rcases (show m = 0 ∨ m = 1 ∨ m = 2 ∨ m = 3 by omega) with e | e | e | e <;> subst e <;> rfl
        have hvb := oddTimeTab2_bd m (by omega)
        generalize oddTimeTab2.getD m 0 = V at hc hvb
        clear hq hd4 hR4 HK3 HN3 hN4 HK
        obtain ⟨z0, z1, z2, z3, _⟩ := HK4.out.z.box
        obtain ⟨o0, o1, o2, o3, _⟩ := HK4.out.o.box
        have f0 := HK4.out.z.free 0
        have p0 := HK4.out.o.free 0
        have f1 := HK4.out.z.free 1
        have p1 := HK4.out.o.free 1
        have f2 := HK4.out.z.free 2
        have p2 := HK4.out.o.free 2
        have f3 := HK4.out.z.free 3
        have p3 := HK4.out.o.free 3
        go_wp2_with fail
        have hf := (HK4.out.set2 (V)).fin _ rfl
        refine bodyPost_ret (v := .agg #[.int .i64 (a), .int .i64 (b), .int .i64 (V), .int .i64 (d)]) (results_c rfl _ _ _ ⟨w.heap.size + 1, 0, none⟩ _ rfl (load_time hf.1)) rfl ?_
        exact ⟨_, _, _, _, _, rfl, ⟨by omega, by omega, by omega, by omega⟩, hf.2⟩
      · have e2' : (r == 2) = false := by simpa using e2
        have HK3 := hid (HK.out.below ((Below.refl _ w2).alloc (Nat.le_refl _) (.cells #[.int .i64 0, .int .i64 24, .int .i64 25, .int .i64 (-1), .int .i64 4611686018427387904] 3)))
        have HN3 := hid (heap_alloc_new w2 (.cells #[.int .i64 0, .int .i64 24, .int .i64 25, .int .i64 (-1), .int .i64 4611686018427387904] 3))
        have hge := HK.out.o.lt
        go_wp2_with fail
        generalize w2.alloc (.cells #[.int .i64 0, .int .i64 24, .int .i64 25, .int .i64 (-1), .int .i64 4611686018427387904] 3) = w3 at HK3 HN3 ⊢
        refine (HN.out _ _ _ (by omega) HK3.out.e.d).mono ?_
        rintro e w4 ⟨rfl, hd4, hR4⟩
        obtain ⟨q, hq⟩ : ∃ q, rollV L k2 5 = q := ⟨_, rfl⟩
        have hqq := rollV_range L k2 5 (by omega)
        rw [hq] at hqq ⊢
        have HK4 := hid (HK3.out.roll hd4 hR4)
        have hgg := HK.out.g0
        have hN4 := (hR4.block w2.heap.size (by omega)).trans HN3.out
        generalize rollK L k2 = k4 at HK4
        obtain ⟨m, rfl⟩ : ∃ m : Nat, q = (m : Int) := ⟨q.toNat, by omega⟩
        have hc : w4.cell? ⟨w2.heap.size, m, none⟩ = some (.int .i64 (oddTimeTab3.getD m 0)) := by
          rw [Lib.cell_of_heap hN4]
          rcases (show m = 0 ∨ m = 1 ∨ m = 2 ∨ m = 3 ∨ m = 4 by omega) with e | e | e | e | e <;> subst e <;> rfl
        have hvb := oddTimeTab3_bd m (by omega)
        generalize oddTimeTab3.getD m 0 = V at hc hvb
        clear hq hd4 hR4 HK3 HN3 hN4 HK
        obtain ⟨z0, z1, z2, z3, _⟩ := HK4.out.z.box
        obtain ⟨o0, o1, o2, o3, _⟩ := HK4.out.o.box
        have f0 := HK4.out.z.free 0
        have p0 := HK4.out.o.free 0
        have f1 := HK4.out.z.free 1
        have p1 := HK4.out.o.free 1
        have f2 := HK4.out.z.free 2
        have p2 := HK4.out.o.free 2
        have f3 := HK4.out.z.free 3
        have p3 := HK4.out.o.free 3
        go_wp2_with fail
        have hf := (HK4.out.set3 (V)).fin _ rfl
        refine bodyPost_ret (v := .agg #[.int .i64 (a), .int .i64 (b), .int .i64 (x), .int .i64 (V)]) (results_c rfl _ _ _ ⟨w.heap.size + 1, 0, none⟩ _ rfl (load_time hf.1)) rfl ?_
        exact ⟨_, _, _, _, _, rfl, ⟨by omega, by omega, by omega, by omega⟩, hf.2⟩
def oddGridTab1 : List Int := [0, 24, 25, -1]
theorem oddGridTab1_bd (m : Nat) (hm : m < 4) : -4611686018427387904 ≤ oddGridTab1.getD m 0 ∧ oddGridTab1.getD m 0 ≤ 4611686018427387904 := by
  rcases (show m = 0 ∨ m = 1 ∨ m = 2 ∨ m = 3 by omega) with e | e | e | e
  all_goals (subst e; decide)
def oddGridTab2 : List Int := [-1, 0, 1439, 1440]
theorem oddGridTab2_bd (m : Nat) (hm : m < 4) : -4611686018427387904 ≤ oddGridTab2.getD m 0 ∧ oddGridTab2.getD m 0 ≤ 4611686018427387904 := by
  rcases (show m = 0 ∨ m = 1 ∨ m = 2 ∨ m = 3 by omega) with e | e | e | e
  all_goals (subst e; decide)
def oddGridTab3 : List Int := [4, 5, 120, 121]
theorem oddGridTab3_bd (m : Nat) (hm : m < 4) : -4611686018427387904 ≤ oddGridTab3.getD m 0 ∧ oddGridTab3.getD m 0 ≤ 4611686018427387904 := by
  rcases (show m = 0 ∨ m = 1 ∨ m = 2 ∨ m = 3 by omega) with e | e | e | e
  all_goals (subst e; decide)
set_option maxHeartbeats 8000000 in
set_option maxRecDepth 100000 in
theorem oddGrid_any (g c k : Nat) (A : Option Addr) (L : List Int) (a b x d : Int) (hs : Small4 a b x d) (w : World) (h : DiceAt w g A L c k) :
    Calls Tryd.prog 27 #[.pointer (some ⟨g, 0, none⟩), .agg #[.int .i64 a, .int .i64 b, .int .i64 x, .int .i64 d]] w (FourP Small4 g c A L w) := by
  obtain ⟨s0, s1, s2, s3⟩ := hs
  have HN := hid (fun (W : World) k n hn (h : DiceAt W g A L c k) => next_at g c k A L n hn W h)
  have HOK := hid (OK.first h a b x d 23)
  clear h
  go_enter Tryd.func27, Tryd.ntmps27
  go_wp2_with fail
  generalize (w.alloc (.cells #[.int .i64 a, .int .i64 b, .int .i64 x, .int .i64 d] 23)).alloc (.cells #[.int .i64 0, .int .i64 0, .int .i64 0, .int .i64 0] 23) = w1 at HOK ⊢
  refine (HN.out _ _ _ (by omega) HOK.out.e.d).mono ?_
  rintro e w2 ⟨rfl, hd2, hR2⟩
  obtain ⟨r, hr⟩ : ∃ r, rollV L k 4 = r := ⟨_, rfl⟩
  rw [hr]
  have HK := hid (HOK.out.roll hd2 hR2)
  generalize rollK L k = k2 at HK
  clear hr hd2 hR2 HOK
  by_cases e0 : r = 0
  · subst e0
    go_wp2_with fail
    refine (HN.out _ _ _ (by omega) HK.out.e.d).mono ?_
    rintro e w4 ⟨rfl, hd4, hR4⟩
    obtain ⟨q, hq⟩ : ∃ q, rollV L k2 10 = q := ⟨_, rfl⟩
    have hqq := rollV_range L k2 10 (by omega)
    rw [hq] at hqq ⊢
    have HK4 := hid (HK.out.roll hd4 hR4)
    generalize rollK L k2 = k4 at HK4
    have v1 : IntKind.i64.wrap (q - 1) = q - 1 := IntWalk.i64_in _ (by omega)
    clear hq hd4 hR4 HK
    obtain ⟨z0, z1, z2, z3, _⟩ := HK4.out.z.box
    obtain ⟨o0, o1, o2, o3, _⟩ := HK4.out.o.box
    have f0 := HK4.out.z.free 0
    have p0 := HK4.out.o.free 0
    have f1 := HK4.out.z.free 1
    have p1 := HK4.out.o.free 1
    have f2 := HK4.out.z.free 2
    have p2 := HK4.out.o.free 2
    have f3 := HK4.out.z.free 3
    have p3 := HK4.out.o.free 3
    go_wp2_with fail
    have hf := (HK4.out.set0 (q - 1)).fin _ rfl
    refine bodyPost_ret (v := .agg #[.int .i64 (q - 1), .int .i64 (b), .int .i64 (x), .int .i64 (d)]) (results_c rfl _ _ _ ⟨w.heap.size + 1, 0, none⟩ _ rfl (load_grid hf.1)) rfl ?_
    exact ⟨_, _, _, _, _, rfl, ⟨by omega, by omega, by omega, by omega⟩, hf.2⟩
  · have e0' : (r == 0) = false := by simpa using e0
    by_cases e1 : r = 1
    · subst e1
      have HK3 := hid (HK.out.below ((Below.refl _ w2).alloc (Nat.le_refl _) (.cells #[.int .i64 0, .int .i64 24, .int .i64 25, .int .i64 (-1)] 3)))
      have HN3 := hid (heap_alloc_new w2 (.cells #[.int .i64 0, .int .i64 24, .int .i64 25, .int .i64 (-1)] 3))
      have hge := HK.out.o.lt
      go_wp2_with fail
      generalize w2.alloc (.cells #[.int .i64 0, .int .i64 24, .int .i64 25, .int .i64 (-1)] 3) = w3 at HK3 HN3 ⊢
      refine (HN.out _ _ _ (by omega) HK3.out.e.d).mono ?_
      rintro e w4 ⟨rfl, hd4, hR4⟩
      obtain ⟨q, hq⟩ : ∃ q, rollV L k2 4 = q := ⟨_, rfl⟩
      have hqq := rollV_range L k2 4 (by omega)
      rw [hq] at hqq ⊢
      have HK4 := hid (HK3.out.roll hd4 hR4)
      have hgg := HK.out.g0
      have hN4 := (hR4.block w2.heap.size (by omega)).trans HN3.out
      generalize rollK L k2 = k4 at HK4
      obtain ⟨m, rfl⟩ : ∃ m : Nat, q = (m : Int) := ⟨q.toNat, by omega⟩
      have hc : w4.cell? ⟨w2.heap.size, m, none⟩ = some (.int .i64 (oddGridTab1.getD m 0)) := by
        rw [Lib.cell_of_heap hN4]
        rcases (show m = 0 ∨ m = 1 ∨ m = 2 ∨ m = 3 by omega) with e | e | e | e <;> subst e <;> rfl
      have hvb := oddGridTab1_bd m (by omega)
      generalize oddGridTab1.getD m 0 = V at hc hvb
      clear hq hd4 hR4 HK3 HN3 hN4 HK
      obtain ⟨z0, z1, z2, z3, _⟩ := HK4.out.z.box
      obtain ⟨o0, o1, o2, o3, _⟩ := HK4.out.o.box
      have f0 := HK4.out.z.free 0
      have p0 := HK4.out.o.free 0
      have f1 := HK4.out.z.free 1
      have p1 := HK4.out.o.free 1
      have f2 := HK4.out.z.free 2
      have p2 := HK4.out.o.free 2
      have f3 := HK4.out.z.free 3
      have p3 := HK4.out.o.free 3
      go_wp2_with fail
      have hf := (HK4.out.set1 (V)).fin _ rfl
      refine bodyPost_ret (v := .agg #[.int .i64 (a), .int .i64 (V), .int .i64 (x), .int .i64 (d)]) (results_c rfl _ _ _ ⟨w.heap.size + 1, 0, none⟩ _ rfl (load_grid hf.1)) rfl ?_
      exact ⟨_, _, _, _, _, rfl, ⟨by omega, by omega, by omega, by omega⟩, hf.2⟩
    · have e1' : (r == 1) = false := by simpa using e1
      by_cases e2 : r = 2
      · subst e2
        have HK3 := hid (HK.out.below ((Below.refl _ w2).alloc (Nat.le_refl _) (.cells #[.int .i64 (-1), .int .i64 0, .int .i64 1439, .int .i64 1440] 3)))
        have HN3 := hid (heap_alloc_new w2 (.cells #[.int .i64 (-1), .int .i64 0, .int .i64 1439, .int .i64 1440] 3))
        have hge := HK.out.o.lt
        go_wp2_with fail
        generalize w2.alloc (.cells #[.int .i64 (-1), .int .i64 0, .int .i64 1439, .int .i64 1440] 3) = w3 at HK3 HN3 ⊢
        refine (HN.out _ _ _ (by omega) HK3.out.e.d).mono ?_
        rintro e w4 ⟨rfl, hd4, hR4⟩
        obtain ⟨q, hq⟩ : ∃ q, rollV L k2 4 = q := ⟨_, rfl⟩
        have hqq := rollV_range L k2 4 (by omega)
        rw [hq] at hqq ⊢
        have HK4 := hid (HK3.out.roll hd4 hR4)
        have hgg := HK.out.g0
        have hN4 := (hR4.block w2.heap.size (by omega)).trans HN3.out
        generalize rollK L k2 = k4 at HK4
        obtain ⟨m, rfl⟩ : ∃ m : Nat, q = (m : Int) := ⟨q.toNat, by omega⟩
        have hc : w4.cell? ⟨w2.heap.size, m, none⟩ = some (.int .i64 (oddGridTab2.getD m 0)) := by
          rw [Lib.cell_of_heap hN4]
          rcases (show m = 0 ∨ m = 1 ∨ m = 2 ∨ m = 3 by omega) with e | e | e | e <;> subst e <;> rfl
        have hvb := oddGridTab2_bd m (by omega)
        generalize oddGridTab2.getD m 0 = V at hc hvb
        clear hq hd4 hR4 HK3 HN3 hN4 HK
        obtain ⟨z0, z1, z2, z3, _⟩ := HK4.out.z.box
        obtain ⟨o0, o1, o2, o3, _⟩ := HK4.out.o.box
        have f0 := HK4.out.z.free 0
        have p0 := HK4.out.o.free 0
        have f1 := HK4.out.z.free 1
        have p1 := HK4.out.o.free 1
        have f2 := HK4.out.z.free 2
        have p2 := HK4.out.o.free 2
        have f3 := HK4.out.z.free 3
        have p3 := HK4.out.o.free 3
        go_wp2_with fail
        have hf := (HK4.out.set2 (V)).fin _ rfl
        refine bodyPost_ret (v := .agg #[.int .i64 (a), .int .i64 (b), .int .i64 (V), .int .i64 (d)]) (results_c rfl _ _ _ ⟨w.heap.size + 1, 0, none⟩ _ rfl (load_grid hf.1)) rfl ?_
        exact ⟨_, _, _, _, _, rfl, ⟨by omega, by omega, by omega, by omega⟩, hf.2⟩
      · have e2' : (r == 2) = false := by simpa using e2
        have HK3 := hid (HK.out.below ((Below.refl _ w2).alloc (Nat.le_refl _) (.cells #[.int .i64 4, .int .i64 5, .int .i64 120, .int .i64 121] 3)))
        have HN3 := hid (heap_alloc_new w2 (.cells #[.int .i64 4, .int .i64 5, .int .i64 120, .int .i64 121] 3))
        have hge := HK.out.o.lt
        go_wp2_with fail
        generalize w2.alloc (.cells #[.int .i64 4, .int .i64 5, .int .i64 120, .int .i64 121] 3) = w3 at HK3 HN3 ⊢
        refine (HN.out _ _ _ (by omega) HK3.out.e.d).mono ?_
        rintro e w4 ⟨rfl, hd4, hR4⟩
        obtain ⟨q, hq⟩ : ∃ q, rollV L k2 4 = q := ⟨_, rfl⟩
        have hqq := rollV_range L k2 4 (by omega)
        rw [hq] at hqq ⊢
        have HK4 := hid (HK3.out.roll hd4 hR4)
        have hgg := HK.out.g0
        have hN4 := (hR4.block w2.heap.size (by omega)).trans HN3.out
        generalize rollK L k2 = k4 at HK4
        obtain ⟨m, rfl⟩ : ∃ m : Nat, q = (m : Int) := ⟨q.toNat, by omega⟩
        have hc : w4.cell? ⟨w2.heap.size, m, none⟩ = some (.int .i64 (oddGridTab3.getD m 0)) := by
          rw [Lib.cell_of_heap hN4]
          rcases (show m = 0 ∨ m = 1 ∨ m = 2 ∨ m = 3 by omega) with e | e | e | e <;> subst e <;> rfl
        have hvb := oddGridTab3_bd m (by omega)
        generalize oddGridTab3.getD m 0 = V at hc hvb
        clear hq hd4 hR4 HK3 HN3 hN4 HK
        obtain ⟨z0, z1, z2, z3, _⟩ := HK4.out.z.box
        obtain ⟨o0, o1, o2, o3, _⟩ := HK4.out.o.box
        have f0 := HK4.out.z.free 0
        have p0 := HK4.out.o.free 0
        have f1 := HK4.out.z.free 1
        have p1 := HK4.out.o.free 1
        have f2 := HK4.out.z.free 2
        have p2 := HK4.out.o.free 2
        have f3 := HK4.out.z.free 3
        have p3 := HK4.out.o.free 3
        go_wp2_with fail
        have hf := (HK4.out.set3 (V)).fin _ rfl
        refine bodyPost_ret (v := .agg #[.int .i64 (a), .int .i64 (b), .int .i64 (x), .int .i64 (V)]) (results_c rfl _ _ _ ⟨w.heap.size + 1, 0, none⟩ _ rfl (load_grid hf.1)) rfl ?_
        exact ⟨_, _, _, _, _, rfl, ⟨by omega, by omega, by omega, by omega⟩, hf.2⟩
end Go.Proofs.YtibbiddadkinhaaDoor

set_option linter.unusedVariables false
namespace Go.Proofs.YtibbiddadkinhaaDoor
open Go Go.Proofs Go.RowKit Go.Lib

abbrev Q4 := Int × Int × Int × Int
def TimeIs (w : World) (o : Option (Nat × Q4)) (lo : Nat) : Prop := ∀ t k y u l, o = some (t, k, y, u, l) → Cells4 25 w t k y u l ∧ lo ≤ t
structure RS (w1 : World) (g c : Nat) (A : Option Addr) (L : List Int) (tg : Nat) (d s b m : Int) (oa ob : Option (Nat × Q4)) (w : World) : Prop where
  e : ∃ k, DE w1 g c A L k w
  x : Cells4 23 w tg d s b m
  a : TimeIs w oa w1.heap.size
  b : TimeIs w ob w1.heap.size
  ne : ∀ ta qa tb qb, oa = some (ta, qa) → ob = some (tb, qb) → ta ≠ tb
  na : ∀ ta qa, oa = some (ta, qa) → ta ≠ tg
  nb : ∀ tb qb, ob = some (tb, qb) → tb ≠ tg
  gl : g < w1.heap.size
  tl : w1.heap.size ≤ tg
section
variable {w1 w w' : World} {g c : Nat} {A : Option Addr} {L : List Int} {tg : Nat} {d s b m : Int} {oa ob : Option (Nat × Q4)}
theorem RS.de {k : Nat} (h : RS w1 g c A L tg d s b m oa ob w) (he : DE w g c A L k w') : RS w1 g c A L tg d s b m oa ob w' := by
  obtain ⟨k0, h0⟩ := h.e
  have hg := h.gl
  have ht := h.tl
  exact ⟨⟨k, h0.trans he⟩, h.x.played he.p (by omega), fun t k y u l ho => ⟨(h.a t k y u l ho).1.played he.p (by have := (h.a t k y u l ho).2; omega), (h.a t k y u l ho).2⟩,
    fun t k y u l ho => ⟨(h.b t k y u l ho).1.played he.p (by have := (h.b t k y u l ho).2; omega), (h.b t k y u l ho).2⟩, h.ne, h.na, h.nb, h.gl, h.tl⟩
theorem RS.roll (h : RS w1 g c A L tg d s b m oa ob w) (hd : ∃ k, DiceAt w' g A L c k) (hr : Rolled g w w') : RS w1 g c A L tg d s b m oa ob w' := by
  obtain ⟨k, hd⟩ := hd
  obtain ⟨k0, h0⟩ := h.e
  exact h.de ((DE.first h0.d).next hd hr)
theorem RS.below (h : RS w1 g c A L tg d s b m oa ob w) (hb : Below w.heap.size w w') : RS w1 g c A L tg d s b m oa ob w' := by
  obtain ⟨k0, h0⟩ := h.e
  exact h.de ((DE.first h0.d).below hb (h0.d.lt))
theorem RS.drew (h : RS w1 g c A L tg d s b m oa ob w) : RS w1 g c A L tg d s b m oa ob w.drew := h.below (Below.refl _ w).drew
theorem RS.allocA (h : RS w1 g c A L tg d s b m none ob w) (k y u l : Int) : RS w1 g c A L tg d s b m (some (w.heap.size, k, y, u, l)) ob (w.alloc (.cells #[.int .i64 k, .int .i64 y, .int .i64 u, .int .i64 l] 25)) := by
  have h' := h.below ((Below.refl _ w).alloc (Nat.le_refl _) (.cells #[.int .i64 k, .int .i64 y, .int .i64 u, .int .i64 l] 25))
  obtain ⟨k0, h0⟩ := h.e
  refine ⟨h'.e, h'.x, ?_, h'.b, ?_, ?_, h'.nb, h'.gl, h'.tl⟩
  · intro t k2 y2 u2 l2 ho
    injection ho with ho
    injection ho with h1 ho
    injection ho with h2 ho
    injection ho with h3 ho
    injection ho with h4 h5
    subst h1 h2 h3 h4 h5
    exact ⟨Cells4.new w k y u l _, h0.p.size⟩
  · intro ta qa tb qb ho ho2
    injection ho with ho
    injection ho with h1 ho
    obtain ⟨b1, b2, b3, b4⟩ := qb
    have := (h.b _ _ _ _ _ ho2).1.lt
    omega
  · intro ta qa ho
    injection ho with ho
    injection ho with h1 ho
    have := h.x.lt
    omega
theorem RS.allocB (h : RS w1 g c A L tg d s b m oa none w) (k y u l : Int) : RS w1 g c A L tg d s b m oa (some (w.heap.size, k, y, u, l)) (w.alloc (.cells #[.int .i64 k, .int .i64 y, .int .i64 u, .int .i64 l] 25)) := by
  have h' := h.below ((Below.refl _ w).alloc (Nat.le_refl _) (.cells #[.int .i64 k, .int .i64 y, .int .i64 u, .int .i64 l] 25))
  obtain ⟨k0, h0⟩ := h.e
  refine ⟨h'.e, h'.x, h'.a, ?_, ?_, h'.na, ?_, h'.gl, h'.tl⟩
  · intro t k2 y2 u2 l2 ho
    injection ho with ho
    injection ho with h1 ho
    injection ho with h2 ho
    injection ho with h3 ho
    injection ho with h4 h5
    subst h1 h2 h3 h4 h5
    exact ⟨Cells4.new w k y u l _, h0.p.size⟩
  · intro ta qa tb qb ho2 ho
    injection ho with ho
    injection ho with h1 ho
    obtain ⟨b1, b2, b3, b4⟩ := qa
    have := (h.a _ _ _ _ _ ho2).1.lt
    omega
  · intro ta qa ho
    injection ho with ho
    injection ho with h1 ho
    have := h.x.lt
    omega
end
/-- Four stores into a block. -/
def put4 (w : World) (t : Nat) (v0 v1 v2 v3 : Int) : World := (((w.setCell ⟨t, 0, none⟩ (.int .i64 v0)).setCell ⟨t, 1, none⟩ (.int .i64 v1)).setCell ⟨t, 2, none⟩ (.int .i64 v2)).setCell ⟨t, 3, none⟩ (.int .i64 v3)
theorem put4_other {T : TypeId} {w : World} {B t : Nat} {a b x d : Int} (h : Cells4 T w B a b x d) (hB : B ≠ t) (v0 v1 v2 v3 : Int) : Cells4 T (put4 w t v0 v1 v2 v3) B a b x d :=
  (((h.other t 0 _ hB).other t 1 _ hB).other t 2 _ hB).other t 3 _ hB
theorem put4_de {w0 w : World} {g c k t : Nat} {A : Option Addr} {L : List Int} (h : DE w0 g c A L k w) (ht : w0.heap.size ≤ t) (hg : g < t) (v0 v1 v2 v3 : Int) : DE w0 g c A L k (put4 w t v0 v1 v2 v3) :=
  (((h.set t 0 _ ht hg).set t 1 _ ht hg).set t 2 _ ht hg).set t 3 _ ht hg
section
variable {w1 w w' : World} {g c : Nat} {A : Option Addr} {L : List Int} {tg ta tb : Nat} {d s b m k y u l k' y' u' l' : Int} {oa ob : Option (Nat × Q4)}
theorem some4 {t : Nat} {k y u l : Int} {t2 : Nat} {k2 y2 u2 l2 : Int} (h : (some (t, k, y, u, l) : Option (Nat × Q4)) = some (t2, k2, y2, u2, l2)) : t = t2 ∧ k = k2 ∧ y = y2 ∧ u = u2 ∧ l = l2 := by
  injection h with ho
  injection ho with h1 ho
  injection ho with h2 ho
  injection ho with h3 ho
  injection ho with h4 h5
  exact ⟨h1, h2, h3, h4, h5⟩
theorem RS.setA (h : RS w1 g c A L tg d s b m (some (ta, k, y, u, l)) ob w) (v0 v1 v2 v3 : Int) : RS w1 g c A L tg d s b m (some (ta, v0, v1, v2, v3)) ob (put4 w ta v0 v1 v2 v3) := by
  obtain ⟨k0, h0⟩ := h.e
  obtain ⟨ha, hla⟩ := h.a _ _ _ _ _ rfl
  have hg := h.gl
  refine ⟨⟨k0, put4_de h0 hla (by omega) _ _ _ _⟩, put4_other h.x (fun e => h.na _ _ rfl e.symm) _ _ _ _, ?_, ?_, ?_, ?_, h.nb, h.gl, h.tl⟩
  · intro t k2 y2 u2 l2 ho
    obtain ⟨rfl, rfl, rfl, rfl, rfl⟩ := some4 ho
    exact ⟨ha.all _ _ _ _, hla⟩
  · intro t k2 y2 u2 l2 ho
    obtain ⟨hb, hlb⟩ := h.b _ _ _ _ _ ho
    exact ⟨put4_other hb (fun e => h.ne _ _ _ _ rfl ho e.symm) _ _ _ _, hlb⟩
  · intro t qa t2 qb ho ho2
    injection ho with ho
    injection ho with h1 _
    subst h1
    exact h.ne _ _ _ _ rfl ho2
  · intro t qa ho
    injection ho with ho
    injection ho with h1 _
    subst h1
    exact h.na _ _ rfl
theorem RS.setB (h : RS w1 g c A L tg d s b m oa (some (tb, k, y, u, l)) w) (v0 v1 v2 v3 : Int) : RS w1 g c A L tg d s b m oa (some (tb, v0, v1, v2, v3)) (put4 w tb v0 v1 v2 v3) := by
  obtain ⟨k0, h0⟩ := h.e
  obtain ⟨hb, hlb⟩ := h.b _ _ _ _ _ rfl
  have hg := h.gl
  refine ⟨⟨k0, put4_de h0 hlb (by omega) _ _ _ _⟩, put4_other h.x (fun e => h.nb _ _ rfl e.symm) _ _ _ _, ?_, ?_, ?_, h.na, ?_, h.gl, h.tl⟩
  · intro t k2 y2 u2 l2 ho
    obtain ⟨ha, hla⟩ := h.a _ _ _ _ _ ho
    exact ⟨put4_other ha (fun e => h.ne _ _ _ _ ho rfl e) _ _ _ _, hla⟩
  · intro t k2 y2 u2 l2 ho
    obtain ⟨rfl, rfl, rfl, rfl, rfl⟩ := some4 ho
    exact ⟨hb.all _ _ _ _, hlb⟩
  · intro t qa t2 qb ho2 ho
    injection ho with ho
    injection ho with h1 _
    subst h1
    exact h.ne _ _ _ _ ho2 rfl
  · intro t qa ho
    injection ho with ho
    injection ho with h1 _
    subst h1
    exact h.nb _ _ rfl
theorem RS.setG (h : RS w1 g c A L tg d s b m oa ob w) (v0 v1 v2 v3 : Int) : RS w1 g c A L tg v0 v1 v2 v3 oa ob (put4 w tg v0 v1 v2 v3) := by
  obtain ⟨k0, h0⟩ := h.e
  have hg := h.gl
  have ht := h.tl
  refine ⟨⟨k0, put4_de h0 ht (by omega) _ _ _ _⟩, h.x.all _ _ _ _, ?_, ?_, h.ne, h.na, h.nb, h.gl, h.tl⟩
  · intro t k2 y2 u2 l2 ho
    obtain ⟨ha, hla⟩ := h.a _ _ _ _ _ ho
    exact ⟨put4_other ha (h.na _ _ ho) _ _ _ _, hla⟩
  · intro t k2 y2 u2 l2 ho
    obtain ⟨hb, hlb⟩ := h.b _ _ _ _ _ ho
    exact ⟨put4_other hb (h.nb _ _ ho) _ _ _ _, hlb⟩
end
end Go.Proofs.YtibbiddadkinhaaDoor

