/-
  A made term: Term of timetablemade.Dice gives back a term that is valid. Conditions: the dice lie in memory.
-/
import Derived.Test.YtkgindnlllhioaaDoorDE
set_option linter.unusedVariables false
namespace Go.Proofs.YtkgindnlllhioaaDoor
open Go Go.Proofs Go.RowKit Go.Lib

/-- A term as it is made. -/
structure MadeTerm (F W : Int) (L : List Int) : Prop where
  f : ∃ a : Int, 0 ≤ a ∧ a < 5000 ∧ F = 2 + 7 * a
  w0 : 1 ≤ W
  w1 : W ≤ 8
  len : L.length ≤ 4
  inn : ∀ k, k < L.length → F ≤ L.getD k 0 ∧ L.getD k 0 < F + 7 * W
  asc : ∀ k, k + 1 < L.length → L.getD k 0 < L.getD (k + 1) 0
/-- What Term hands back. -/
def TermP (g c : Nat) (A : Option Addr) (L : List Int) (w0 : World) (e : Ending) (w' : World) : Prop :=
  ∃ F W A' c' l k', e = .returned (.agg #[.int .i64 F, .int .i64 W, .slice A' (List.length l) c']) ∧ MadeTerm F W l ∧ IntRow w' w0.heap.size (.slice A' (List.length l) c') l ∧ DE w0 g c A L k' w'
theorem getD_snoc (l : List Int) (x : Int) (k : Nat) : (l ++ [x]).getD k 0 = if k < l.length then l.getD k 0 else if k = l.length then x else 0 := by
  by_cases h : k < l.length
  · rw [if_pos h]; simp [List.getD, List.getElem?_append_left h]
  · rw [if_neg h]
    by_cases e : k = l.length
    · subst e; simp [List.getD]
    · rw [if_neg e]; simp [List.getD, List.getElem?_eq_none (show (l ++ [x]).length ≤ k by simp; omega)]
/-- What holds while the holidays are made. -/
structure TermL (F W day : Int) (l : List Int) (n : Nat) : Prop where
  len : l.length + n ≤ 4
  lo : F ≤ day
  hi : day ≤ F + 7 * W
  inn : ∀ k, k < l.length → F ≤ l.getD k 0 ∧ l.getD k 0 < F + 7 * W ∧ l.getD k 0 < day
  asc : ∀ k, k + 1 < l.length → l.getD k 0 < l.getD (k + 1) 0
theorem TermL.snoc {F W day r : Int} {l : List Int} {n : Nat} (h : TermL F W day l (n + 1)) (hr : 0 ≤ r) (hlt : day + r < F + 7 * W) : TermL F W (day + r + 1) (l ++ [day + r]) n := by
  have h1 := h.lo
  refine ⟨by have := h.len; simp; omega, by omega, by omega, fun k hk => ?_, fun k hk => ?_⟩
  · rw [getD_snoc]
    by_cases e : k < l.length
    · rw [if_pos e]
      obtain ⟨a, b, c⟩ := h.inn k e
      exact ⟨a, b, by omega⟩
    · have e' : k = l.length := by simp at hk; omega
      rw [if_neg e, if_pos e']
      exact ⟨by omega, hlt, by omega⟩
  · rw [getD_snoc, getD_snoc]
    simp at hk
    by_cases e : k + 1 < l.length
    · rw [if_pos (by omega), if_pos e]
      exact h.asc k e
    · have e' : k + 1 = l.length := by omega
      rw [if_pos (by omega), if_neg e, if_pos e']
      obtain ⟨a, b, c⟩ := h.inn k (by omega)
      omega

theorem load_term {w : World} {k : Nat} {x y z : Value} (h : w.heap[k]? = some (.cells #[x, y, z] 37 (0, 0))) : (loadVar 37 ⟨k, 0, none⟩).run Tryd.prog w = .ok (.agg #[x, y, z]) w := by
  have h0 : w.cell? ⟨k, 0, none⟩ = some x := by rw [Lib.cell_of_heap h]; rfl
  have h1 : w.cell? ⟨k, 1, none⟩ = some y := by rw [Lib.cell_of_heap h]; rfl
  have h2 : w.cell? ⟨k, 2, none⟩ = some z := by rw [Lib.cell_of_heap h]; rfl
  simp [loadVar, go_sem, h0, h1, h2]
/-- A block of three cells, each of them set. -/
theorem set3 {w : World} {b : Nat} {x y z x' y' z' : Value} {t : TypeId} (h : w.heap[b]? = some (.cells #[x, y, z] t (0, 0))) :
    (((w.setCell ⟨b, 0, none⟩ x').setCell ⟨b, 1, none⟩ y').setCell ⟨b, 2, none⟩ z').heap[b]? = some (.cells #[x', y', z'] t (0, 0)) := by
  have h1 := heap_setCell_same w b 0 _ _ x' h
  have h2 := heap_setCell_same _ b 1 _ _ y' h1
  have h3 := heap_setCell_same _ b 2 _ _ z' h2
  rw [h3]
  rfl
theorem set3_rolled {w : World} {b : Nat} {x' y' z' : Value} : Rolled b w (((w.setCell ⟨b, 0, none⟩ x').setCell ⟨b, 1, none⟩ y').setCell ⟨b, 2, none⟩ z') :=
  ((Rolled.set b 0 w x').trans (Rolled.set b 1 _ y')).trans (Rolled.set b 2 _ z')
theorem term_end {w0 wr : World} {g c kr : Nat} {A Ar : Option Addr} {L l : List Int} {F W : Int} {cr : Nat} {a : Act} (ha : a.tmps.getD 2 undef = .pointer (some ⟨w0.heap.size, 0, none⟩)) (hd : a.defers = []) (hg : g < w0.heap.size)
    (hM : MadeTerm F W l) (hrow : IntRow wr (w0.heap.size + 2) (.slice Ar l.length cr) l) (hZ : wr.heap[w0.heap.size]? = some (.cells #[.int .i64 0, .int .i64 0, .slice none 0 0] 37 (0, 0))) (hE : DE w0 g c A L kr wr) :
    bodyPost Tryd.prog Tryd.f29 (TermP g c A L w0) Exit.ret a (((wr.setCell ⟨w0.heap.size, 0, none⟩ (.int .i64 F)).setCell ⟨w0.heap.size, 1, none⟩ (.int .i64 W)).setCell ⟨w0.heap.size, 2, none⟩ (.slice Ar l.length cr)) := by
  refine bodyPost_ret (v := .agg #[.int .i64 F, .int .i64 W, .slice Ar l.length cr]) (results_c rfl _ _ _ ⟨w0.heap.size, 0, none⟩ _ ha (load_term (set3 hZ))) hd ?_
  refine ⟨F, W, Ar, cr, l, kr, rfl, hM, IntRow.mono (hrow.rolled set3_rolled (by omega)) (by omega), ?_⟩
  exact ((hE.set _ _ _ (Nat.le_refl _) hg).set _ _ _ (Nat.le_refl _) hg).set _ _ _ (Nat.le_refl _) hg

set_option maxHeartbeats 4000000 in
set_option maxRecDepth 100000 in
theorem term_any (g c k : Nat) (A : Option Addr) (L : List Int) (w : World) (h : DiceAt w g A L c k) :
    Calls Tryd.prog 29 #[.pointer (some ⟨g, 0, none⟩)] w (TermP g c A L w) := by
  have hgl := h.lt
  obtain ⟨i3, hi3, hz3, hs3, hb3⟩ := info_parts infoInt
  have hE := DE.first h
  have HN := hid (fun (W : World) k n hn (h : DiceAt W g A L c k) => next_at g c k A L n hn W h)
  have HE := hid hE
  clear h hE
  go_enter Tryd.func29, Tryd.ntmps29
  go_wp2_with fail
  refine (HN.out _ _ _ (by omega) (HE.out.alloc _).d).mono ?_
  rintro e w2 ⟨rfl, hd2, hR2⟩
  obtain ⟨r1, hr1⟩ : ∃ r, rollV L k 5000 = r := ⟨_, rfl⟩
  have hrr1 := rollV_range L k 5000 (by omega)
  rw [hr1] at hrr1 ⊢
  have HE2 := hid ((HE.out.alloc _).next hd2 hR2)
  have HZ2 : Hid (w2.heap[w.heap.size]? = some (.cells #[.int .i64 0, .int .i64 0, .slice none 0 0] 37 (0, 0))) := hid ((hR2.block _ (by omega)).trans (heap_alloc_new w _))
  have hz2 : w2.heap.size = w.heap.size + 1 := by rw [hR2.size]; simp
  clear hd2 hR2 HE hr1
  go_wp2_with fail
  refine (HN.out _ _ _ (by omega) HE2.out.d).mono ?_
  rintro e w3 ⟨rfl, hd3, hR3⟩
  obtain ⟨r2, hr2⟩ : ∃ r, rollV L (rollK L k) 8 = r := ⟨_, rfl⟩
  have hrr2 := rollV_range L (rollK L k) 8 (by omega)
  rw [hr2] at hrr2 ⊢
  have HE3 := hid (HE2.out.next hd3 hR3)
  have HZ3 : Hid (w3.heap[w.heap.size]? = some (.cells #[.int .i64 0, .int .i64 0, .slice none 0 0] 37 (0, 0))) := hid ((hR3.block _ (by omega)).trans HZ2.out)
  have hz3 : w3.heap.size = w.heap.size + 1 := by rw [hR3.size]; exact hz2
  generalize rollK L (rollK L k) = k3 at HE3
  clear hd3 hR3 HE2 HZ2 hz2 hr2
  go_wp2_with fail
  obtain ⟨F, hF⟩ : ∃ F, 2 + 7 * r1 = F := ⟨_, rfl⟩
  obtain ⟨W, hW⟩ : ∃ W, 1 + r2 = W := ⟨_, rfl⟩
  rw [hF, hW]
  have hFb : 2 ≤ F ∧ F ≤ 40000 := by omega
  have hWb : 1 ≤ W ∧ W ≤ 8 := by omega
  have HFa : Hid (∃ a : Int, 0 ≤ a ∧ a < 5000 ∧ F = 2 + 7 * a) := hid ⟨r1, by omega, by omega, hF.symm⟩
  clear hF hW hrr1 hrr2
  refine (HN.out _ _ _ (by omega) (HE3.out.alloc _).d).mono ?_
  rintro e w5 ⟨rfl, hd5, hR5⟩
  obtain ⟨r3, hr3⟩ : ∃ r, rollV L k3 5 = r := ⟨_, rfl⟩
  have hrr3 := rollV_range L k3 5 (by omega)
  rw [hr3] at hrr3 ⊢
  have HE5 := hid ((HE3.out.alloc _).next hd5 hR5)
  have HZ5 : Hid (w5.heap[w.heap.size]? = some (.cells #[.int .i64 0, .int .i64 0, .slice none 0 0] 37 (0, 0))) := hid ((hR5.block _ (by omega)).trans ((Below.heap_alloc w3 _ _ (by omega)).trans HZ3.out))
  have HT5 : Hid (w5.heap[w.heap.size + 1]? = some (.cells #[.int .i64 F, .int .i64 W, .slice none 0 0] 37 (0, 0))) := hid ((hR5.block _ (by omega)).trans (by rw [← hz3]; exact heap_alloc_new w3 _))
  have HS5 : Hid (w.heap.size + 2 ≤ w5.heap.size) := hid (by rw [hR5.size]; simp; omega)
  generalize rollK L k3 = k5 at HE5
  obtain ⟨n5, rfl⟩ : ∃ n : Nat, r3 = (n : Int) := ⟨r3.toNat, by omega⟩
  have HTL : Hid (TermL F W F [] n5) := hid ⟨by simp; omega, by omega, by omega, fun k hk => by simp at hk, fun k hk => by simp at hk⟩
  clear hd5 hR5 HE3 HZ3 hz3 hr3 hrr3
  go_wp2_with fail
  go_loopw [4, 5] (fun dv nv wr => ∃ (day : Int) (n : Nat) (v : Value) (l : List Int) (kr : Nat), dv = .int .i64 day ∧ nv = .int .i64 (n : Int) ∧ Hid (TermL F W day l n) ∧ IntRow wr (w.heap.size + 2) v l ∧
    Hid (wr.heap[w.heap.size]? = some (.cells #[.int .i64 0, .int .i64 0, .slice none 0 0] 37 (0, 0))) ∧ Hid (wr.heap[w.heap.size + 1]? = some (.cells #[.int .i64 F, .int .i64 W, v] 37 (0, 0))) ∧ Hid (w.heap.size + 2 ≤ wr.heap.size) ∧ Hid (DE w g c A L kr wr)) (fun _ nv _ => (RowKit.intOf nv).toNat)
  case atStart => exact ⟨F, n5, _, [], k5, rfl, rfl, HTL, IntRow.nil _ _, HZ5, HT5, HS5, HE5⟩
  case round =>
    obtain ⟨day, n, v, l, kr, rfl, rfl, hTL, hrow, hZ, hT, hS, hE⟩ := hrel
    obtain ⟨Ar, cr, rfl⟩ := row_slice hrow
    have HRow := hid hrow
    have hlo := hTL.out.lo
    have hhi := hTL.out.hi
    have hle := hTL.out.len
    clear hrow HE5 HZ5 HT5 HS5 HTL
    have z0 : wr.cell? ⟨w.heap.size, 0, none⟩ = some (.int .i64 0) := by rw [Lib.cell_of_heap hZ.out]; rfl
    have z1 : wr.cell? ⟨w.heap.size, 1, none⟩ = some (.int .i64 0) := by rw [Lib.cell_of_heap hZ.out]; rfl
    have z2 : wr.cell? ⟨w.heap.size, 2, none⟩ = some (.slice none 0 0) := by rw [Lib.cell_of_heap hZ.out]; rfl
    have t0 : wr.cell? ⟨w.heap.size + 1, 0, none⟩ = some (.int .i64 F) := by rw [Lib.cell_of_heap hT.out]; rfl
    have t1 : wr.cell? ⟨w.heap.size + 1, 1, none⟩ = some (.int .i64 W) := by rw [Lib.cell_of_heap hT.out]; rfl
    have t2 : wr.cell? ⟨w.heap.size + 1, 2, none⟩ = some (.slice Ar l.length cr) := by rw [Lib.cell_of_heap hT.out]; rfl
    have f0 : wr.frozen? ⟨w.heap.size, 0, none⟩ = false := cells_free hZ.out 0
    have f1 : wr.frozen? ⟨w.heap.size, 1, none⟩ = false := cells_free hZ.out 1
    have f2 : wr.frozen? ⟨w.heap.size, 2, none⟩ = false := cells_free hZ.out 2
    by_cases hn : n = 0
    · subst hn
      have HM : Hid (MadeTerm F W l) := hid ⟨HFa.out, hWb.1, hWb.2, by omega, fun k hk => ⟨(hTL.out.inn k hk).1, (hTL.out.inn k hk).2.1⟩, hTL.out.asc⟩
      go_wp2_with fail
      exact term_end rfl rfl hgl HM.out HRow.out hZ.out hE.out
    · obtain ⟨m, rfl⟩ : ∃ m, n = m + 1 := ⟨n - 1, by omega⟩
      have hnz : (0 : Int) < ((m + 1 : Nat) : Int) := by omega
      go_wp2_with fail
      refine (HN.out _ _ _ (by omega) hE.out.d).mono ?_
      rintro e w6 ⟨rfl, hd6, hR6⟩
      obtain ⟨r, hr⟩ : ∃ r, rollV L kr 20 = r := ⟨_, rfl⟩
      have hrr := rollV_range L kr 20 (by omega)
      rw [hr] at hrr ⊢
      have HE6 := hid (hE.out.next hd6 hR6)
      have HZ6 := hid ((hR6.block w.heap.size (by omega)).trans hZ.out)
      have HT6 := hid ((hR6.block (w.heap.size + 1) (by omega)).trans hT.out)
      have HS6 : Hid (w.heap.size + 2 ≤ w6.heap.size) := hid (by rw [hR6.size]; exact hS.out)
      have HRow6 := hid (IntRow.rolled HRow.out hR6 (by omega))
      generalize rollK L kr = k6 at HE6
      clear hd6 hR6 hr z0 z1 z2 t0 t1 t2 f0 f1 f2 hZ hT hS hE HRow
      have z0 : w6.cell? ⟨w.heap.size, 0, none⟩ = some (.int .i64 0) := by rw [Lib.cell_of_heap HZ6.out]; rfl
      have z1 : w6.cell? ⟨w.heap.size, 1, none⟩ = some (.int .i64 0) := by rw [Lib.cell_of_heap HZ6.out]; rfl
      have z2 : w6.cell? ⟨w.heap.size, 2, none⟩ = some (.slice none 0 0) := by rw [Lib.cell_of_heap HZ6.out]; rfl
      have t0 : w6.cell? ⟨w.heap.size + 1, 0, none⟩ = some (.int .i64 F) := by rw [Lib.cell_of_heap HT6.out]; rfl
      have t1 : w6.cell? ⟨w.heap.size + 1, 1, none⟩ = some (.int .i64 W) := by rw [Lib.cell_of_heap HT6.out]; rfl
      have t2 : w6.cell? ⟨w.heap.size + 1, 2, none⟩ = some (.slice Ar l.length cr) := by rw [Lib.cell_of_heap HT6.out]; rfl
      have f0 : w6.frozen? ⟨w.heap.size, 0, none⟩ = false := cells_free HZ6.out 0
      have f1 : w6.frozen? ⟨w.heap.size, 1, none⟩ = false := cells_free HZ6.out 1
      have f2 : w6.frozen? ⟨w.heap.size, 2, none⟩ = false := cells_free HZ6.out 2
      by_cases hge : F + 7 * W ≤ day + r
      · have HM : Hid (MadeTerm F W l) := hid ⟨HFa.out, hWb.1, hWb.2, by omega, fun k hk => ⟨(hTL.out.inn k hk).1, (hTL.out.inn k hk).2.1⟩, hTL.out.asc⟩
        go_wp2_with fail
        exact term_end rfl rfl hgl HM.out HRow6.out HZ6.out HE6.out
      · have hge' : decide (F + 7 * W ≤ day + r) = false := by simpa using hge
        have HTL7 := hid (hTL.out.snoc hrr.1 (by omega))
        have HC3 : Hid (l.length + 1 ≤ maxLen) := by unfold maxLen; exact hid (by omega)
        have HC4 : Hid ((l.length + 1) * 8 ≤ 140737488355328) := hid (by omega)
        have HC5 : Hid (∀ o : Obj, w.heap.size + 2 ≤ (w6.alloc o).heap.size) := hid (fun o => by have := HS6.out; simp; omega)
        go_wp2_with (at_builtin; refine wpList_append_own _ rfl _ _ 35 rfl (w.heap.size + 2) 3 i3 (.int .i64 0) 1 8 Tryd.underlying35 hi3 hz3 hs3 hb3 rfl (by decide) _ l.length (intVals l) rfl (World.ownsRow.alloc HRow6.out _) ⟨w6.heap.size, 0, none⟩ 1 1 [.int .i64 (day + r)] rfl rfl (one_new _ _ _) (one_one _ _) HC3.out HC4.out (HC5.out _) ?_)
        intro v' w7 hown' hgrow _
        have hg' := grownBy_of_alloc hgrow
        have hb67 : Below (w.heap.size + 2) w6 w7 := (Below.refl _ w6).grown hg' HS6.out (fun k hk => (World.ownsRow.lt HRow6.out k hk).1)
        obtain ⟨A7, c7, rfl⟩ := row_slice hown'
        have HZ7 := hid ((hb67.block w.heap.size (by omega)).trans HZ6.out)
        have HT7 := hid ((hb67.block (w.heap.size + 1) (by omega)).trans HT6.out)
        have HS7 : Hid (w.heap.size + 2 ≤ w7.heap.size) := hid (Nat.le_trans HS6.out hb67.size)
        have HE7 := hid (HE6.out.below (hb67.mono (by omega)) hgl)
        have HRow7 : Hid (IntRow w7 (w.heap.size + 2) (.slice A7 (l.length + 1) c7) (l ++ [day + r])) := hid (by
          unfold IntRow
          rw [intVals_app, List.length_append]
          exact hown')
        clear hown' hgrow hg' hb67 z0 z1 z2 t0 t1 t2 f0 f1 f2
        have t2 : w7.cell? ⟨w.heap.size + 1, 2, none⟩ = some (.slice Ar l.length cr) := by rw [Lib.cell_of_heap HT7.out]; rfl
        have f2 : w7.frozen? ⟨w.heap.size + 1, 2, none⟩ = false := cells_free HT7.out 2
        have HT8 : Hid ((w7.setCell ⟨w.heap.size + 1, 2, none⟩ (.slice A7 (l.length + 1) c7)).heap[w.heap.size + 1]? = some (.cells #[.int .i64 F, .int .i64 W, .slice A7 (l.length + 1) c7] 37 (0, 0))) := hid (by
          rw [heap_setCell_same w7 _ 2 _ _ _ HT7.out]; rfl)
        have HR8 : Hid (Rolled (w.heap.size + 1) w7 (w7.setCell ⟨w.heap.size + 1, 2, none⟩ (.slice A7 (l.length + 1) c7))) := hid (Rolled.set _ _ _ _)
        go_wp2_with fail
        go_roundw
        case rel =>
          refine ⟨day + r + 1, m, _, l ++ [day + r], k6, rfl, by go_num, HTL7.out |> hid, ?_, hid ((HR8.out.block _ (by omega)).trans HZ7.out), hid HT8.out, hid (by rw [HR8.out.size]; exact HS7.out), hid (HE7.out.set _ _ _ (by omega) (by omega))⟩
          exact IntRow.rolled HRow7.out HR8.out (by omega)
        case measure => simp [RowKit.intOf]
end Go.Proofs.YtkgindnlllhioaaDoor
