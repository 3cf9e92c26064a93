/-
  An odd term: OddTerm of timetablemade.Dice gives back a term of small numbers with at most 70 holidays. Conditions: the dice and the holidays lie in memory.
-/
import Derived.Test.YtkgindnlllhioaaDoorTerm
import Derived.Deep.AppendLies
import Derived.Maps.AppendAt
import Derived.Laws.OwnMore
import Derived.Deep.RegionHeld3
import Derived.Deep.RegionLaw
import Derived.Deep.DeepCutAuto
import Derived.Deep.CutBlock
set_option linter.unusedVariables false
namespace Go.Proofs.YtkgindnlllhioaaDoor
open Go Go.Proofs Go.RowKit Go.Lib

/-- What OddTerm hands back. -/
def OddP (g c : Nat) (A : Option Addr) (L : List Int) (w0 : World) (e : Ending) (w' : World) : Prop :=
  ∃ F W A' c' l k', e = .returned (.agg #[.int .i64 F, .int .i64 W, .slice A' (List.length l) c']) ∧ (-1 ≤ F ∧ F ≤ 100000) ∧ l.length ≤ 70 ∧ IntRow w' (g + 1) (.slice A' (List.length l) c') l ∧ DE w0 g c A L k' w'
theorem IntRow.other {B b : Nat} {w w' : World} {v : Value} {l : List Int} {cs : Array Value} {t : TypeId} (h : IntRow w B v l) (hz : w.heap[b]? = some (.cells cs t (0, 0))) (ht : t ≠ 3) (hr : Rolled b w w') : IntRow w' B v l := by
  refine hr.row h (fun e => ?_)
  obtain ⟨c, hc⟩ := row_kind h b e
  rw [hz] at hc
  injection hc with hc
  injection hc with _ h2 _
  exact ht h2
theorem odd_end {w0 wr : World} {g c kr : Nat} {A Ar : Option Addr} {L l : List Int} {F W : Int} {cr : Nat} {a : Act} (ha : a.tmps.getD 4 undef = .pointer (some ⟨w0.heap.size + 1, 0, none⟩)) (hd : a.defers = []) (hg : g < w0.heap.size)
    (hF : -1 ≤ F ∧ F ≤ 100000) (hl : l.length ≤ 70) (hrow : IntRow wr (g + 1) (.slice Ar l.length cr) l) (hZ : wr.heap[w0.heap.size + 1]? = some (.cells #[.int .i64 0, .int .i64 0, .slice none 0 0] 37 (0, 0))) (hE : DE w0 g c A L kr wr) :
    bodyPost Tryd.prog Tryd.f31 (OddP g c A L w0) Exit.ret a (((wr.setCell ⟨w0.heap.size + 1, 0, none⟩ (.int .i64 F)).setCell ⟨w0.heap.size + 1, 1, none⟩ (.int .i64 W)).setCell ⟨w0.heap.size + 1, 2, none⟩ (.slice Ar l.length cr)) := by
  refine bodyPost_ret (v := .agg #[.int .i64 F, .int .i64 W, .slice Ar l.length cr]) (results_c rfl _ _ _ ⟨w0.heap.size + 1, 0, none⟩ _ ha (load_term (set3 hZ))) hd ?_
  refine ⟨F, W, Ar, cr, l, kr, rfl, hF, hl, hrow.other hZ (by decide) set3_rolled, ?_⟩
  exact ((hE.set _ _ _ (by omega) (by omega)).set _ _ _ (by omega) (by omega)).set _ _ _ (by omega) (by omega)

/-- What is kept in OddTerm: the dice, the box, the result's cells, the holidays. -/
structure OK (w0 : World) (g c : Nat) (A : Option Addr) (L : List Int) (F W : Int) (A' : Option Addr) (c' : Nat) (l : List Int) (k : Nat) (w : World) : Prop where
  e : DE w0 g c A L k w
  z : w.heap[w0.heap.size]? = some (.cells #[.int .i64 F, .int .i64 W, .slice A' l.length c'] 37 (0, 0))
  o : w.heap[w0.heap.size + 1]? = some (.cells #[.int .i64 0, .int .i64 0, .slice none 0 0] 37 (0, 0))
  row : IntRow w (g + 1) (.slice A' l.length c') l
  g0 : g < w0.heap.size
section
variable {w0 : World} {g c k k' : Nat} {A : Option Addr} {L : List Int} {F W : Int} {A' : Option Addr} {c' : Nat} {l : List Int} {w w' : World}
theorem OK.lt (h : OK w0 g c A L F W A' c' l k w) : w0.heap.size + 2 ≤ w.heap.size := (Array.getElem?_eq_some_iff.1 h.o).1
theorem OK.below (h : OK w0 g c A L F W A' c' l k w) (hb : Below w.heap.size w w') : OK w0 g c A L F W A' c' l k w' := by
  have hs := h.lt
  exact ⟨h.e.below (hb.mono (by omega)) h.g0, (hb.block _ (by omega)).trans h.z, (hb.block _ (by omega)).trans h.o, row_under h.row hb, h.g0⟩
theorem OK.roll (h : OK w0 g c A L F W A' c' l k w) (hd : DiceAt w' g A L c k') (hr : Rolled g w w') : OK w0 g c A L F W A' c' l k' w' :=
  ⟨h.e.next hd hr, (hr.block _ (by have := h.g0; omega)).trans h.z, (hr.block _ (by have := h.g0; omega)).trans h.o, h.row.rolled hr (by omega), h.g0⟩
theorem OK.cells (h : OK w0 g c A L F W A' c' l k w) : w.cell? ⟨w0.heap.size, 0, none⟩ = some (.int .i64 F) ∧ w.cell? ⟨w0.heap.size, 1, none⟩ = some (.int .i64 W) ∧ w.cell? ⟨w0.heap.size, 2, none⟩ = some (.slice A' l.length c') ∧
    w.cell? ⟨w0.heap.size + 1, 0, none⟩ = some (.int .i64 0) ∧ w.cell? ⟨w0.heap.size + 1, 1, none⟩ = some (.int .i64 0) ∧ w.cell? ⟨w0.heap.size + 1, 2, none⟩ = some (.slice none 0 0) := by
  refine ⟨?_, ?_, ?_, ?_, ?_, ?_⟩ <;> first | (rw [Lib.cell_of_heap h.z]; rfl) | (rw [Lib.cell_of_heap h.o]; rfl)
theorem OK.free (h : OK w0 g c A L F W A' c' l k w) (j : Nat) : w.frozen? ⟨w0.heap.size, j, none⟩ = false ∧ w.frozen? ⟨w0.heap.size + 1, j, none⟩ = false := ⟨cells_free h.z j, cells_free h.o j⟩
end
theorem ok_first {w : World} {g c k : Nat} {A : Option Addr} {L : List Int} (F W : Int) {A' : Option Addr} {c' : Nat} {l : List Int} (h : DiceAt w g A L c k) (hrow : IntRow w (g + 1) (.slice A' l.length c') l) :
    OK w g c A L F W A' c' l k ((w.alloc (.cells #[.int .i64 F, .int .i64 W, .slice A' l.length c'] 37)).alloc (.cells #[.int .i64 0, .int .i64 0, .slice none 0 0] 37)) := by
  have e1 := heap_alloc_new w (.cells #[.int .i64 F, .int .i64 W, .slice A' l.length c'] 37)
  have b1 : Below w.heap.size w (w.alloc (.cells #[.int .i64 F, .int .i64 W, .slice A' l.length c'] 37)) := (Below.refl _ w).alloc (Nat.le_refl _) _
  have s1 : (w.alloc (.cells #[.int .i64 F, .int .i64 W, .slice A' l.length c'] 37)).heap.size = w.heap.size + 1 := by simp
  generalize w.alloc (.cells #[.int .i64 F, .int .i64 W, .slice A' l.length c'] 37) = w1 at e1 b1 s1 ⊢
  have e2 := heap_alloc_new w1 (.cells #[.int .i64 0, .int .i64 0, .slice none 0 0] 37)
  have b2 : Below w1.heap.size w1 (w1.alloc (.cells #[.int .i64 0, .int .i64 0, .slice none 0 0] 37)) := (Below.refl _ w1).alloc (Nat.le_refl _) _
  rw [s1] at e2
  have hE : DE w g c A L k w := DE.first h
  exact ⟨(hE.below b1 h.lt).below (b2.mono (by omega)) h.lt, (b2.block _ (by omega)).trans e1, e2, row_under (row_under hrow b1) b2, h.lt⟩

/-- A step of a region that draws its order: an append of which the run is known. -/
theorem step_append_run {P : Program} {ops : Array Oper} {o : Oper} {a : Act} {w : World} {K : Act → World → Prop} {Q : Exit → Act → World → Prop} {E : Prop} (hgd : o.guard = none) (s x : Operand) (t : TypeId)
    (ho : o.op = .call { callee := .builtin .append, args := #[s, x], argTypes := #[t, t] }) (v xv r : Value) (w' : World) (hs : a.eval s = v) (hx : a.eval x = xv)
    (hrun : (Builtin.append_ #[t, t] o.type #[v, xv]).run P w = .ok r w') (h : K (a.put o.dst r) w') :
    if Region.wanted o (yielded ops a.tmps) = true then Oper.wp P o a w K Q else E := by
  have hw : Region.wanted o (yielded ops a.tmps) = true := by simp [Region.wanted, hgd]
  rw [if_pos hw]
  unfold Oper.wp execOp
  simp only [ho, resolve, invoke, builtin, Sem.run_bind, Sem.run_pure, Result.andThen_ok, List.map_toArray, List.map_cons, List.map_nil, hs, hx, hrun]
  exact h
/-- What holds behind the cases. -/
def OddAll (g c : Nat) (A : Option Addr) (L : List Int) (w0 w' : World) : Prop :=
  ∃ (F W : Int) (A8 : Option Addr) (c8 : Nat) (l8 : List Int) (k8 : Nat), (-1 ≤ F ∧ F ≤ 100000) ∧ l8.length ≤ 70 ∧ w'.heap[w0.heap.size]? = some (.cells #[.int .i64 F, .int .i64 W, .slice A8 l8.length c8] 37 (0, 0)) ∧ w'.heap[w0.heap.size + 1]? = some (.cells #[.int .i64 0, .int .i64 0, .slice none 0 0] 37 (0, 0)) ∧
    IntRow w' (g + 1) (.slice A8 l8.length c8) l8 ∧ DE w0 g c A L k8 w'
section
variable {w0 : World} {g c k : Nat} {A : Option Addr} {L : List Int} {F W : Int} {A' : Option Addr} {c' : Nat} {l : List Int} {w : World}
theorem odd_all0 (h : OK w0 g c A L F W A' c' l k w) (V : Int) (hV : -1 ≤ V ∧ V ≤ 100000) (hl : l.length ≤ 70) : OddAll g c A L w0 (w.setCell ⟨w0.heap.size, 0, none⟩ (.int .i64 V)) := by
  have HR := Rolled.set w0.heap.size 0 w (.int .i64 V)
  refine ⟨V, W, A', c', l, k, hV, hl, ?_, (HR.block _ (by omega)).trans h.o, h.row.other h.z (by decide) HR, h.e.set _ _ _ (Nat.le_refl _) h.g0⟩
  rw [heap_setCell_same w _ 0 _ _ _ h.z]; rfl
theorem odd_all1 (h : OK w0 g c A L F W A' c' l k w) (V : Int) (hV : -1 ≤ F ∧ F ≤ 100000) (hl : l.length ≤ 70) : OddAll g c A L w0 (w.setCell ⟨w0.heap.size, 1, none⟩ (.int .i64 V)) := by
  have HR := Rolled.set w0.heap.size 1 w (.int .i64 V)
  refine ⟨F, V, A', c', l, k, hV, hl, ?_, (HR.block _ (by omega)).trans h.o, h.row.other h.z (by decide) HR, h.e.set _ _ _ (Nat.le_refl _) h.g0⟩
  rw [heap_setCell_same w _ 1 _ _ _ h.z]; rfl
end
theorem odd_all2 {w0 w7 : World} {g c k7 : Nat} {A A7 : Option Addr} {L l : List Int} {F W : Int} {v : Value} {c7 : Nat} (hg : g < w0.heap.size) (hF : -1 ≤ F ∧ F ≤ 100000) (hl : l.length ≤ 70) (hZ : w7.heap[w0.heap.size]? = some (.cells #[.int .i64 F, .int .i64 W, v] 37 (0, 0))) (hO : w7.heap[w0.heap.size + 1]? = some (.cells #[.int .i64 0, .int .i64 0, .slice none 0 0] 37 (0, 0)))
    (hrow : IntRow w7 (g + 1) (.slice A7 l.length c7) l) (hE : DE w0 g c A L k7 w7) : OddAll g c A L w0 (w7.setCell ⟨w0.heap.size, 2, none⟩ (.slice A7 l.length c7)) := by
  have HR := Rolled.set w0.heap.size 2 w7 (.slice A7 l.length c7)
  refine ⟨F, W, A7, c7, l, k7, hF, hl, ?_, (HR.block _ (by omega)).trans hO, hrow.other hZ (by decide) HR, hE.set _ _ _ (Nat.le_refl _) hg⟩
  rw [heap_setCell_same w7 _ 2 _ _ _ hZ]; rfl
theorem odd_mid {w0 w7 : World} {g c k7 : Nat} {A A7 : Option Addr} {L l : List Int} {F W q : Int} {v : Value} {c7 : Nat} (hg : g < w0.heap.size) (hF : -1 ≤ F ∧ F ≤ 100000) (hl : l.length ≤ 4) (hZ : w7.heap[w0.heap.size]? = some (.cells #[.int .i64 F, .int .i64 W, v] 37 (0, 0))) (hO : w7.heap[w0.heap.size + 1]? = some (.cells #[.int .i64 0, .int .i64 0, .slice none 0 0] 37 (0, 0)))
    (hrow : w7.ownsRow (w0.heap.size + 2) 3 1 (.slice A7 (l.length + 1) c7) (l.length + 1) (intVals l ++ [.int .i64 q])) (hE : DE w0 g c A L k7 w7) : OddAll g c A L w0 (w7.setCell ⟨w0.heap.size, 2, none⟩ (.slice A7 (l.length + 1) c7)) := by
  have hx : IntRow w7 (w0.heap.size + 2) (.slice A7 (l ++ [q]).length c7) (l ++ [q]) := by
    unfold IntRow
    rw [intVals_app, List.length_append]
    exact hrow
  have := odd_all2 hg hF (by simp; omega) hZ hO (IntRow.mono hx (by omega)) hE
  rwa [List.length_append] at this
def tab5 : List Int := [-1, 0, 3, 36524, 36504]
def tab4 : List Int := [0, 20, 21, -1]
theorem tab5_bd (m : Nat) : -1 ≤ tab5.getD m 0 ∧ tab5.getD m 0 ≤ 36524 := by
  match m with
  | 0 => decide
  | 1 => decide
  | 2 => decide
  | 3 => decide
  | 4 => decide
  | n + 5 => simp [tab5, List.getD]
set_option maxHeartbeats 4000000 in
set_option maxRecDepth 100000 in
theorem odd_any (g c k : Nat) (A : Option Addr) (L : List Int) (F W : Int) (A' : Option Addr) (c' : Nat) (l : List Int) (hF : -1 ≤ F ∧ F ≤ 100000) (hW : 1 ≤ W ∧ W ≤ 8) (hl : l.length ≤ 4) (w : World) (h : DiceAt w g A L c k) (hrow : IntRow w (g + 1) (.slice A' l.length c') l) :
    Calls Tryd.prog 31 #[.pointer (some ⟨g, 0, none⟩), .agg #[.int .i64 F, .int .i64 W, .slice A' l.length c']] w (OddP g c A L w) := by
  have hgl := h.lt
  have hok := ok_first F W h hrow
  have HN := hid (fun (W : World) k n hn (h : DiceAt W g A L c k) => next_at g c k A L n hn W h)
  have HOK := hid hok
  clear h hok hrow
  go_enter Tryd.func31, Tryd.ntmps31
  go_wp2_with fail
  generalize (w.alloc (.cells #[.int .i64 F, .int .i64 W, .slice A' l.length c'] 37)).alloc (.cells #[.int .i64 0, .int .i64 0, .slice none 0 0] 37) = w1 at HOK ⊢
  refine (HN.out _ _ _ (by omega) HOK.out.e.d).mono ?_
  rintro e w2 ⟨rfl, hd2, hR2⟩
  obtain ⟨r, hr⟩ : ∃ r, rollV L k 4 = r := ⟨_, rfl⟩
  rw [hr]
  have HK := hid (HOK.out.roll hd2 hR2)
  generalize rollK L k = k2 at HK
  have hlt := HK.out.lt
  clear hr hd2 hR2 HOK
  obtain ⟨z0, z1, z2, o0, o1, o2⟩ := HK.out.cells
  obtain ⟨f0, p0⟩ := HK.out.free 0
  obtain ⟨f1, p1⟩ := HK.out.free 1
  obtain ⟨f2, p2⟩ := HK.out.free 2
  go_upto_block 0 with fail
  go_cut [6] (fun v wx => OddAll g c A L w wx)
  case first =>
   by_cases e0 : r = 0
   · subst e0
     have HK3 := hid (HK.out.below ((Below.refl _ w2).alloc (Nat.le_refl _) (.cells #[.int .i64 (-1), .int .i64 0, .int .i64 3, .int .i64 36524, .int .i64 36504] 3)))
     have HN3 := hid (heap_alloc_new w2 (.cells #[.int .i64 (-1), .int .i64 0, .int .i64 3, .int .i64 36524, .int .i64 36504] 3))
     go_wp2_with fail
     generalize w2.alloc (.cells #[.int .i64 (-1), .int .i64 0, .int .i64 3, .int .i64 36524, .int .i64 36504] 3) = w3 at HK3 HN3 ⊢
     refine (HN.out _ _ _ (by omega) HK3.out.e.d).mono ?_
     rintro e w4 ⟨rfl, hd4, hR4⟩
     obtain ⟨q, hq⟩ : ∃ q, rollV L k2 5 = q := ⟨_, rfl⟩
     have hqq := rollV_range L k2 5 (by omega)
     rw [hq] at hqq ⊢
     have HK4 := hid (HK3.out.roll hd4 hR4)
     have hN4 := (hR4.block w2.heap.size (by omega)).trans HN3.out
     generalize rollK L k2 = k4 at HK4
     obtain ⟨m, rfl⟩ : ∃ m : Nat, q = (m : Int) := ⟨q.toNat, by omega⟩
     have hc : w4.cell? ⟨w2.heap.size, m, none⟩ = some (.int .i64 (tab5.getD m 0)) := by
       rw [Lib.cell_of_heap hN4]
       rcases (show m = 0 ∨ m = 1 ∨ m = 2 ∨ m = 3 ∨ m = 4 by omega) with e | e | e | e | e <;> subst e <;> rfl
     have hvb := tab5_bd m
     generalize tab5.getD m 0 = V at hc hvb
     clear hq hd4 hR4 HK3 HN3 hN4 HK z0 z1 z2 o0 o1 o2 f0 f1 f2 p0 p1 p2
     obtain ⟨z0, z1, z2, o0, o1, o2⟩ := HK4.out.cells
     obtain ⟨f0, p0⟩ := HK4.out.free 0
     obtain ⟨f1, p1⟩ := HK4.out.free 1
     obtain ⟨f2, p2⟩ := HK4.out.free 2
     go_wp2_with fail
     go_meet
     exact odd_all0 HK4.out V (by omega) (by omega)
   · have e0' : (r == 0) = false := by simpa using e0
     by_cases e1 : r = 1
     · subst e1
       have HK3 := hid (HK.out.below ((Below.refl _ w2).alloc (Nat.le_refl _) (.cells #[.int .i64 0, .int .i64 20, .int .i64 21, .int .i64 (-1)] 3)))
       have HN3 := hid (heap_alloc_new w2 (.cells #[.int .i64 0, .int .i64 20, .int .i64 21, .int .i64 (-1)] 3))
       go_wp2_with fail
       generalize w2.alloc (.cells #[.int .i64 0, .int .i64 20, .int .i64 21, .int .i64 (-1)] 3) = w3 at HK3 HN3 ⊢
       refine (HN.out _ _ _ (by omega) HK3.out.e.d).mono ?_
       rintro e w4 ⟨rfl, hd4, hR4⟩
       obtain ⟨q, hq⟩ : ∃ q, rollV L k2 4 = q := ⟨_, rfl⟩
       have hqq := rollV_range L k2 4 (by omega)
       rw [hq] at hqq ⊢
       have HK4 := hid (HK3.out.roll hd4 hR4)
       have hN4 := (hR4.block w2.heap.size (by omega)).trans HN3.out
       generalize rollK L k2 = k4 at HK4
       obtain ⟨m, rfl⟩ : ∃ m : Nat, q = (m : Int) := ⟨q.toNat, by omega⟩
       have hc : w4.cell? ⟨w2.heap.size, m, none⟩ = some (.int .i64 (tab4.getD m 0)) := by
         rw [Lib.cell_of_heap hN4]
         rcases (show m = 0 ∨ m = 1 ∨ m = 2 ∨ m = 3 by omega) with e | e | e | e <;> subst e <;> rfl
       generalize tab4.getD m 0 = V at hc
       clear hq hd4 hR4 HK3 HN3 hN4 HK z0 z1 z2 o0 o1 o2 f0 f1 f2 p0 p1 p2
       obtain ⟨z0, z1, z2, o0, o1, o2⟩ := HK4.out.cells
       obtain ⟨f0, p0⟩ := HK4.out.free 0
       obtain ⟨f1, p1⟩ := HK4.out.free 1
       obtain ⟨f2, p2⟩ := HK4.out.free 2
       go_wp2_with fail
       go_meet
       exact odd_all1 HK4.out V hF (by omega)
     · have e1' : (r == 1) = false := by simpa using e1
       by_cases e2 : r = 2
       · subst e2
         clear e0 e1 z0 z1 o0 o1 o2 f0 f1 f2 p0 p1 p2
         obtain ⟨i3, hi3, hz3, hs3, hb3⟩ := info_parts infoInt
         obtain ⟨z0, z1, z2, _, _, _⟩ := HK.out.cells
         have hNX : Hid (∀ w', OK w g c A L F W A' c' l k2 w' → Calls Tryd.prog 32 #[.pointer (some ⟨g, 0, none⟩), .int .i64 3] w' fun e w'' => ∃ r k', e = .returned (.int .i64 r) ∧ (0 ≤ r ∧ r < 3) ∧ Rolled g w' w'' ∧ OK w g c A L F W A' c' l k' w'') :=
           hid fun w' hk => (HN.out w' k2 3 (by omega) hk.e.d).mono fun e w'' ⟨h1, h2, h3⟩ => ⟨_, _, h1, rollV_range L k2 3 (by omega), h3, hk.roll h2 h3⟩
         have hk' : OK w g c A L F W A' c' l k2 w2.drew := HK.out.below (Below.refl _ w2).drew
         have hsz : w.heap.size + 2 ≤ w2.heap.size := HK.out.lt
         have hap : ∃ v5 w5, (Builtin.append_ #[35, 35] 35 #[.slice none 0 0, .slice A' l.length c']).run Tryd.prog w2.drew = .ok v5 w5 ∧ w5.ownsRow (w.heap.size + 2) 3 1 v5 l.length (intVals l) ∧ w2.drew.grownBy w5 none := by
           have hr := HK.out.row
           have hn0 : ∀ w' : World, w'.ownsRow (w.heap.size + 2) 3 1 (.slice none 0 0) 0 [] := fun w' => ⟨rfl, .inl ⟨rfl, rfl⟩⟩
           rcases hr.2 with ⟨hv, h0⟩ | ⟨gr, cap, cur, hv, _⟩
           · injection hv with hv1 _ hv3
             subst hv1 hv3
             obtain rfl := List.eq_nil_of_length_eq_zero h0
             exact ⟨_, _, run_append_owned_none (P := Tryd.prog) (w := w2.drew) (w.heap.size + 2) 35 35 3 i3 1 Tryd.underlying35 hi3 (.slice none 0 0) 0 [] (hn0 _), hn0 _, World.grownBy.refl _ _⟩
           · have hv' := hv
             injection hv' with hv1 _ hv3
             subst hv1 hv3
             obtain ⟨v', w', h1, h2, h3, _, _⟩ := run_append_own_at (P := Tryd.prog) (w := w2.drew) (w.heap.size + 2) 35 35 3 i3 (.int .i64 0) 1 8 Tryd.underlying35 hi3 hz3 hs3 hb3 rfl (by decide) (.slice none 0 0) 0 [] (hn0 _) ⟨gr, 0, none⟩ l.length c' (intVals l) (by rw [intVals_len]; omega) (fun j u hj => World.ownsRow.cells hr (g := gr) (by rw [hv]; rfl) j u hj)
               (fun u hu => by unfold intVals at hu; obtain ⟨x, _, rfl⟩ := List.mem_map.1 hu; rfl) (by unfold maxLen; omega) (by omega) hsz
             rw [Nat.zero_add, List.nil_append] at h2
             exact ⟨v', w', h1, h2, h3⟩
         obtain ⟨v5, w5, hrun, hown1, hgrow⟩ := hap
         obtain ⟨A5, cap5, rfl⟩ := row_slice hown1
         have hb5 : Below w2.heap.size w2.drew w5 := (Below.refl _ w2.drew).grown hgrow (Nat.le_refl _) (fun k e => by cases e)
         have hk5 := hk'.below hb5
         have HRUN := hid hrun
         have HOWN1 := hid hown1
         have HK5 := hid hk5
         have HM2 : Hid (l.length + 1 ≤ maxLen) := by unfold maxLen; exact hid (by omega)
         have v1 : IntKind.i64.wrap (7 * W) = 7 * W := IntWalk.i64_in _ (by omega)
         have v2 : IntKind.i64.wrap (F + 7 * W) = F + 7 * W := IntWalk.i64_in _ (by omega)
         have a0 := hk5.cells.1
         have a1 := hk5.cells.2.1
         clear hrun hown1 hgrow hb5 hk5 hk'
         go_wp2_with fail
         go_region_law
             (first
             | (refine step_append_run (by rfl) _ _ 35 (by rfl) (.slice none 0 0) (.slice A' l.length c') (.slice A5 l.length cap5) w5 (by rfl) (by rfl) HRUN.out ?_)
             | (go_simp; go_at_call 32; refine (hNX.out _ HK5.out).mono ?_; rintro e w6 ⟨q, k6, rfl, hq, hR6, hk'⟩; have v3 : IntKind.i64.wrap (F + 7 * W - q) = F + 7 * W - q := IntWalk.i64_in _ (by clear v1 v2; omega); have hown2 := IntRow.rolled HOWN1.out hR6 (by omega); have a0 := hk'.cells.1; have a1 := hk'.cells.2.1)
             | (refine step_append_lies _ (by rfl) _ _ _ (by rfl) (w.heap.size + 2) 3 i3 (.int .i64 0) 1 8 Tryd.underlying35 hi3 hz3 hs3 hb3 rfl (by omega) (.slice A5 l.length cap5) l.length (intVals l) (by rfl) (World.ownsRow.alloc hown2 _)
                 ⟨w6.heap.size, 0, none⟩ 1 1 [.int .i64 (F + 7 * W - q)] (by rfl) (by rfl) (one_new _ _ _) (one_one _ _) (by omega) HM2.out (by omega) (by have := hk'.lt; simp; omega) (w6.heap.size + 1) (by simp) ?_
                intro g7 cap7 w7 hown3 hgrow7 hat7 hlt7
                have hg7 := grownBy_of_alloc hgrow7
                have hne7 : ∀ (b : Nat) (cs : Array Value) (t : TypeId), w6.heap[b]? = some (.cells cs t (0, 0)) → t ≠ 3 → w7.heap[b]? = some (.cells cs t (0, 0)) := by
                  intro b cs t hg ht
                  refine (hg7.block _ (Array.getElem?_eq_some_iff.1 hg).1 ?_).trans hg
                  intro e
                  obtain ⟨cc, hcc⟩ := row_kind hown2 _ e.symm
                  rw [hg] at hcc
                  injection hcc with hcc
                  injection hcc with _ h2 _
                  exact ht h2
                have HMID := hid (odd_mid hgl hF hl (hne7 _ _ _ hk'.z (by decide)) (hne7 _ _ _ hk'.o (by decide)) hown3 (hk'.e.below (((Below.refl _ w6).grown hg7 hk'.lt (fun k hk => (World.ownsRow.lt hown2 k hk).1) : Below (w.heap.size + 2) w6 w7).mono (by omega)) hgl))
                have a2 : w7.cell? ⟨w.heap.size, 2, none⟩ = some (.slice A' l.length c') := by rw [Lib.cell_of_heap (hne7 _ _ _ hk'.z (by decide))]; rfl
                have a3 : w7.frozen? ⟨w.heap.size, 2, none⟩ = false := cells_free (hne7 _ _ _ hk'.z (by decide)) 2
                clear hne7 hg7 hgrow7 hown3))
         all_goals
           first
           | (go_wp2_with fail
              go_meet
              exact HMID.out)
       · have e2' : (r == 2) = false := by simpa using e2
         have HK3 := hid (HK.out.below ((Below.refl _ w2).alloc (Nat.le_refl _) (.cells #[.int .i64 F, .int .i64 F] 3)))
         have HN3 := hid (heap_alloc_new w2 (.cells #[.int .i64 F, .int .i64 F] 3))
         obtain ⟨y0, y1, y2, x0, x1, x2⟩ := HK3.out.cells
         obtain ⟨g0, h0⟩ := HK3.out.free 0
         obtain ⟨g1, h1⟩ := HK3.out.free 1
         obtain ⟨g2, h2⟩ := HK3.out.free 2
         clear e0 e1 e2 HK
         go_wp2_with fail
         generalize w2.alloc (.cells #[.int .i64 F, .int .i64 F] 3) = w3 at HK3 HN3 ⊢
         have hrow : IntRow w3 (g + 1) (.slice (some ⟨w2.heap.size, 0, none⟩) ([F, F] : List Int).length 2) [F, F] := ⟨rfl, .inr ⟨w2.heap.size, 2, #[.int .i64 F, .int .i64 F], rfl, by omega, HN3.out, Nat.le_refl _, by unfold maxLen; omega, rfl, rfl⟩⟩
         go_meet
         exact odd_all2 hgl hF (by simp) HK3.out.z HK3.out.o hrow HK3.out.e
  case rest =>
    obtain ⟨F8, W8, A8, c8, l8, k8, hF8, hl8, hZ8, hO8, hrow8, hE8⟩ := hcut
    have HZ8 := hid hZ8
    have HO8 := hid hO8
    have HR8 := hid hrow8
    have HE8 := hid hE8
    clear hZ8 hO8 hrow8 hE8 z0 z1 z2 o0 o1 o2 f0 f1 f2 p0 p1 p2
    have c0 : wc.cell? ⟨w.heap.size, 0, none⟩ = some (.int .i64 F8) := by rw [Lib.cell_of_heap HZ8.out]; rfl
    have c1 : wc.cell? ⟨w.heap.size, 1, none⟩ = some (.int .i64 W8) := by rw [Lib.cell_of_heap HZ8.out]; rfl
    have c2 : wc.cell? ⟨w.heap.size, 2, none⟩ = some (.slice A8 l8.length c8) := by rw [Lib.cell_of_heap HZ8.out]; rfl
    have o0 : wc.cell? ⟨w.heap.size + 1, 0, none⟩ = some (.int .i64 0) := by rw [Lib.cell_of_heap HO8.out]; rfl
    have o1 : wc.cell? ⟨w.heap.size + 1, 1, none⟩ = some (.int .i64 0) := by rw [Lib.cell_of_heap HO8.out]; rfl
    have o2 : wc.cell? ⟨w.heap.size + 1, 2, none⟩ = some (.slice none 0 0) := by rw [Lib.cell_of_heap HO8.out]; rfl
    have p0 := cells_free HO8.out 0
    have p1 := cells_free HO8.out 1
    have p2 := cells_free HO8.out 2
    go_wp2_with fail
    exact odd_end rfl rfl hgl hF8 hl8 HR8.out HO8.out HE8.out
end Go.Proofs.YtkgindnlllhioaaDoor
