/-
  The code's reader of layer 2: a field. Conditions: the reader lies in memory; its text has at most 65536 bytes; the problems are a row of the call's own.
-/
import Derived.Test.YtcpkefjijinhiaaDoorCQuot
set_option linter.unusedVariables false
namespace Go.Proofs.YtcpkefjijinhiaaDoor
open Go Go.Proofs Go.RowKit Go.Lib

/-- What a field comes to. -/
def FieldOutC (g B : Nat) (S : ByteArray) (D Q : UInt8) (ps : List Prob) (w : World) (r : FRes) (e : Ending) (w' : World) : Prop :=
  CKept B g w w' ∧ ∃ pv', CRd w' g S D Q r.place pv' ∧ match r with
  | .ok f x => e = .returned (.tuple #[fldV f, .bool true]) ∧ ProbRow w' B pv' ps
  | .bad p x => (∃ t c q, e = .returned (.tuple #[.agg #[.string t, .int .i64 c, .bool q], .bool false])) ∧ ProbRow w' B pv' (ps ++ [p])
theorem text_field {g B : Nat} {S : ByteArray} {D Q : UInt8} {ps : List Prob} {w w' : World} {R : FRes} {e : Ending} (h : TextOut g B S D Q ps w R e w') :
    CKept B g w w' ∧ ∃ pv' t ok, e = .returned (.tuple #[.string ⟨t.toArray⟩, .bool ok]) ∧ CRd w' g S D Q R.place pv' ∧
      ((∃ f x, R = .ok f x ∧ t = f.text ∧ ok = true ∧ ProbRow w' B pv' ps) ∨ (∃ p x, R = .bad p x ∧ ok = false ∧ ProbRow w' B pv' (ps ++ [p]))) := by
  obtain ⟨hK, pv', hC, hm⟩ := h
  cases R with
  | ok f x => exact ⟨hK, pv', f.text, true, hm.1, hC, .inl ⟨f, x, rfl, rfl, rfl, hm.2⟩⟩
  | bad p x =>
    obtain ⟨⟨t, rfl⟩, hP⟩ := hm
    exact ⟨hK, pv', t, false, rfl, hC, .inr ⟨p, x, rfl, rfl, hP⟩⟩
theorem plain_form (L : Str) (D Q : UInt8) (a : Nat) (f : Fld) (x : Nat) (h : plainP L D Q a = .ok f x) : f.col = colP L a ∧ f.quoted = false := by
  unfold plainP at h
  split at h
  · simp at h
  · injection h with h _
    subst h
    exact ⟨rfl, rfl⟩
theorem quot_form (L : Str) (D Q : UInt8) (a : Nat) (f : Fld) (x : Nat) (h : quotP L D Q a = .ok f x) : f.col = colP L a ∧ f.quoted = true := by
  unfold quotP at h
  split at h
  · simp at h
  · split at h
    · injection h with h _
      subst h
      exact ⟨rfl, rfl⟩
    · simp at h
/-- A field's block, stored into and handed back. -/
theorem CKept.own {B g k j : Nat} {w w' : World} (h : CKept B g w w') (hk : w.heap.size ≤ k) (hB : B ≤ w.heap.size) (v : Value) : CKept B g w (w'.setCell ⟨k, j, none⟩ v) := by
  have hr := Rolled.set k j w' v
  exact ⟨hr.os.trans h.os, hr.tape.trans h.tape, hr.output.trans h.output, by rw [hr.size]; exact h.size, fun i hi hg => (hr.block i (by omega)).trans (h.low i hi hg),
    fun i c T fz hc hg hT => (hr.block i (by have := (Array.getElem?_eq_some_iff.1 hc).1; omega)).trans (h.others i c T fz hc hg hT)⟩
theorem CRd.own {w : World} {g a k j : Nat} {S : ByteArray} {D Q : UInt8} {pv : Value} (h : CRd w g S D Q a pv) (hk : g ≠ k) (v : Value) : CRd (w.setCell ⟨k, j, none⟩ v) g S D Q a pv :=
  h.rolled ((Rolled.set k j w v).block g hk)

theorem fin50 {w4 w5 : World} {k2 k4 : Nat} {cs : Array Value} (p2 : w4.heap[k2]? = some (.cells cs 50 (0, 0))) (hs : ∃ a b c, cs = #[a, b, c]) (hne : k2 ≠ k4) {v x y z : Value}
    (e : w5 = (((w4.setCell ⟨k4, 0, none⟩ v).setCell ⟨k2, 0, none⟩ x).setCell ⟨k2, 1, none⟩ y).setCell ⟨k2, 2, none⟩ z) : w5.heap[k2]? = some (.cells #[x, y, z] 50 (0, 0)) := by
  obtain ⟨a, b, c, rfl⟩ := hs
  subst e
  rw [heap_setCell_same _ k2 2 _ _ _ (heap_setCell_same _ k2 1 _ _ _ (heap_setCell_same _ k2 0 _ _ _ (((Rolled.set k4 0 w4 v).block k2 hne).trans p2)))]
  rfl
theorem fin_field {g B k2 k4 : Nat} {S : ByteArray} {D Q : UInt8} {ps : List Prob} {w w4 w5 : World} {R : FRes} {pv' : Value} {t : Str} {ok : Bool} {c : Int} {qd : Bool}
    (hK : CKept B g w w4) (hB : B ≤ w.heap.size) (hC : CRd w4 g S D Q R.place pv') (h2 : g ≠ k2) (h4 : g ≠ k4) (hg2 : w.heap.size ≤ k2) (hg4 : w.heap.size ≤ k4)
    {c2 c4 : Array Value} (p2 : w4.heap[k2]? = some (.cells c2 50 (0, 0))) (p4 : w4.heap[k4]? = some (.cells c4 50 (0, 0)))
    (hm : (∃ f x, R = .ok f x ∧ t = f.text ∧ ok = true ∧ ProbRow w4 B pv' ps) ∨ (∃ p x, R = .bad p x ∧ ok = false ∧ ProbRow w4 B pv' (ps ++ [p])))
    (hf : ∀ f x, R = .ok f x → f.col = c ∧ f.quoted = qd) {v x y z : Value}
    (e : w5 = (((w4.setCell ⟨k4, 0, none⟩ v).setCell ⟨k2, 0, none⟩ x).setCell ⟨k2, 1, none⟩ y).setCell ⟨k2, 2, none⟩ z) :
    FieldOutC g B S D Q ps w R (.returned (.tuple #[.agg #[.string ⟨t.toArray⟩, .int .i64 c, .bool qd], .bool ok])) w5 := by
  subst e
  have hrow : ∀ qs, ProbRow w4 B pv' qs → ProbRow ((((w4.setCell ⟨k4, 0, none⟩ v).setCell ⟨k2, 0, none⟩ x).setCell ⟨k2, 1, none⟩ y).setCell ⟨k2, 2, none⟩ z) B pv' qs := fun qs hP =>
    (Rolled.set k2 2 _ z).row ((Rolled.set k2 1 _ y).row ((Rolled.set k2 0 _ x).row ((Rolled.set k4 0 w4 v).row hP (prob_ne hP p4 (by decide))) (prob_ne hP p2 (by decide))) (prob_ne hP p2 (by decide))) (prob_ne hP p2 (by decide))
  refine ⟨(((hK.own hg4 hB _).own hg2 hB _).own hg2 hB _).own hg2 hB _, pv', (((hC.own h4 _).own h2 _).own h2 _).own h2 _, ?_⟩
  rcases hm with ⟨f, x', rfl, rfl, rfl, hP⟩ | ⟨p, x', rfl, rfl, hP⟩
  · obtain ⟨rfl, rfl⟩ := hf f x' rfl
    exact ⟨rfl, hrow _ hP⟩
  · exact ⟨⟨_, _, _, rfl⟩, hrow _ hP⟩

set_option maxHeartbeats 4000000 in
set_option maxRecDepth 100000 in
theorem field_any (g a B : Nat) (S : ByteArray) (D Q : UInt8) (pv : Value) (ps : List Prob) (w : World) (h : CRd w g S D Q a pv) (hp : ProbRow w B pv ps) (hps : ps.length ≤ 1000000) (hBw : B ≤ w.heap.size) :
    Calls Tryd.prog 56 #[.pointer (some ⟨g, 0, none⟩)] w (FieldOutC g B S D Q ps w (fieldP (lst S) D Q a)) := by
  have hgl := (Array.getElem?_eq_some_iff.1 h.cells).1
  have hb0 := Below.alloc (Below.refl w.heap.size w) (Nat.le_refl _) (.cells #[.string ⟨#[]⟩, .int .i64 0, .bool false] 50)
  have hC1 := h.below hb0
  have cC := col_any g a S D Q pv _ hC1
  have H := hid h
  have HP := hid hp
  have HBW := hid hBw
  have HPS := hid hps
  have HB0 := hid hb0
  have HC1 := hid hC1
  clear h hp hBw hps hb0 hC1
  go_enter Tryd.func56, Tryd.ntmps56
  go_wp2_with fail
  refine cC.mono ?_
  rintro e w1 ⟨rfl, q, rfl⟩
  go_wp2_with fail
  have hne2 : w.heap.size ≠ g := by omega
  have hne4 : w.heap.size + 1 ≠ g := by omega
  obtain ⟨w2, hw2⟩ : ∃ w2, w2 = ((w.alloc (.cells #[.string ⟨#[]⟩, .int .i64 0, .bool false] 50)).drewN q).alloc (.cells #[.string ⟨#[]⟩, .int .i64 (colP (lst S) a), .bool false] 50) := ⟨_, rfl⟩
  rw [← hw2]
  have hs1 : ((w.alloc (.cells #[.string ⟨#[]⟩, .int .i64 0, .bool false] 50)).drewN q).heap.size = w.heap.size + 1 := by rw [(Rolled.drawn 0 _ q).size]; simp
  have hb2 : Below w.heap.size w w2 := by
    rw [hw2]
    exact (HB0.out.trans (below_drewNg _ q w.heap.size)).alloc (by rw [hs1]; omega) _
  have q2 : w2.heap[w.heap.size]? = some (.cells #[.string ⟨#[]⟩, .int .i64 0, .bool false] 50 (0, 0)) := by
    rw [hw2, Below.heap_alloc _ _ _ (by rw [hs1]; omega), drewN_heap]
    exact heap_alloc_new w _
  have q4 : w2.heap[w.heap.size + 1]? = some (.cells #[.string ⟨#[]⟩, .int .i64 (colP (lst S) a), .bool false] 50 (0, 0)) := by
    rw [hw2, ← hs1]
    exact heap_alloc_new _ _
  clear hw2 hs1 HB0 HC1
  have hk24 : w.heap.size ≠ w.heap.size + 1 := by omega
  have hge4 : w.heap.size ≤ w.heap.size + 1 := by omega
  have hge2 : w.heap.size ≤ w.heap.size := Nat.le_refl _
  generalize w.heap.size + 1 = k4 at hne4 q4 hk24 hge4 ⊢
  generalize hk2 : w.heap.size = k2 at hne2 q2 hk24 ⊢
  have hge2' : w.heap.size ≤ k2 := by omega
  clear hk2 hge2
  have hC2 := H.out.below hb2
  have cA := fun n => rest_any g a S D Q pv _ (hC2.drawn n)
  have cP := fun w => prefix_one ((lst S).drop a) Q w
  have c5 := hC2.c5
  by_cases hh : ((lst S).drop a).head? = some Q
  · have hb : (((lst S).drop a).head? == some Q) = true := by simpa using hh
    rw [hb] at cP
    have hQP : fieldP (lst S) D Q a = quotP (lst S) D Q a := if_pos hh
    have HQP := hid hQP
    have HH := hid hh
    clear hQP hh hb
    generalize strV ((lst S).drop a) = v0 at *
    go_quiet ((first | (go_at_call 51; with_reducible refine Calls.quiet_of (cA _)) | (go_at_call 49; with_reducible refine Calls.quiet_of_same (cP _))))
    have q2' : (w2.drewN nq).heap[k2]? = _ := (drewN_heap w2 nq k2).trans q2
    have q4' : (w2.drewN nq).heap[k4]? = _ := (drewN_heap w2 nq k4).trans q4
    have hb3 := hb2.trans (below_drewNg w2 nq w.heap.size)
    clear cA cP c5 q2 q4 hb2 hC2
    generalize w2.drewN nq = w3 at hb3 q2' q4' ⊢
    have n2 := cell_at q4' 2
    have n2f := free_at q4' 2
    simp only [List.getElem?_toArray, List.getElem?_cons_zero, List.getElem?_cons_succ] at n2
    go_wp2_with fail
    have q2s : (w3.setCell ⟨k4, 2, none⟩ (.bool true)).heap[k2]? = _ := ((Rolled.set k4 2 w3 (.bool true)).block k2 hk24).trans q2'
    have q4s : (w3.setCell ⟨k4, 2, none⟩ (.bool true)).heap[k4]? = some (.cells #[.string ⟨#[]⟩, .int .i64 (colP (lst S) a), .bool true] 50 (0, 0)) := by
      rw [heap_setCell_same w3 k4 2 _ _ _ q4']
      rfl
    have hb3s := hb3.trans ((Rolled.set k4 2 w3 (.bool true)).below hge4)
    clear q2' q4' hb3 n2 n2f
    generalize w3.setCell ⟨k4, 2, none⟩ (.bool true) = w3 at q2s q4s hb3s ⊢
    have q2' := q2s
    have q4' := q4s
    have hb3 := hb3s
    clear q2s q4s hb3s
    refine (quoted_any g a B S D Q pv ps w3 (H.out.below hb3) (row_under HP.out hb3) HPS.out (Nat.le_trans HBW.out hb3.size) HH.out).mono ?_
    intro e w4 hT
    obtain ⟨hK4, pv', t, ok, rfl, hC4, hm⟩ := text_field hT
    have p2 := (hK4.others k2 _ 50 _ q2' hne2 (by decide)).trans q2'
    have p4 := (hK4.others k4 _ 50 _ q4' hne4 (by decide)).trans q4'
    have hKw := (CKept.below (g := g) hb3 HBW.out).trans hK4
    clear hT hK4 q2' q4' hb3
    have m0 := cell_at p4 0
    have m1 := cell_at p4 1
    have m2 := cell_at p4 2
    have m0f := free_at p4 0
    have n0 := cell_at p2 0
    have n1 := cell_at p2 1
    have n2 := cell_at p2 2
    have n0f := free_at p2 0
    have n1f := free_at p2 1
    have n2f := free_at p2 2
    simp only [List.getElem?_toArray, List.getElem?_cons_zero, List.getElem?_cons_succ] at m0 m1 m2 n0 n1 n2
    have HM := hid hm
    have HC4 := hid hC4
    have HKw := hid hKw
    have P2 := hid p2
    have P4 := hid p4
    clear hm hC4 hKw p2 p4
    have hk42 := hk24.symm
    go_wp2
    obtain ⟨w5, hw5⟩ : ∃ w5, w5 = (((w4.setCell ⟨k4, 0, none⟩ (.string ⟨t.toArray⟩)).setCell ⟨k2, 0, none⟩ (.string ⟨t.toArray⟩)).setCell ⟨k2, 1, none⟩ (.int .i64 (colP (lst S) a))).setCell ⟨k2, 2, none⟩ (.bool true) := ⟨_, rfl⟩
    rw [← hw5]
    refine bodyPost_ret (v := .tuple #[.agg #[.string ⟨t.toArray⟩, .int .i64 (colP (lst S) a), .bool true], .bool ok]) (results_ct rfl _ _ _ ⟨k2, 0, none⟩ _ _ rfl rfl (load50 (fin50 P2.out ⟨_, _, _, rfl⟩ hk24 hw5))) rfl ?_
    rw [HQP.out]
    exact fin_field HKw.out HBW.out HC4.out hne2.symm hne4.symm hge2' hge4 P2.out P4.out HM.out (fun f x h => quot_form _ _ _ _ f x h) hw5
  · have hb : (((lst S).drop a).head? == some Q) = false := by simpa using hh
    rw [hb] at cP
    have hQP : fieldP (lst S) D Q a = plainP (lst S) D Q a := if_neg hh
    have HQP := hid hQP
    clear hQP hh hb
    generalize strV ((lst S).drop a) = v0 at *
    go_quiet ((first | (go_at_call 51; with_reducible refine Calls.quiet_of (cA _)) | (go_at_call 49; with_reducible refine Calls.quiet_of_same (cP _))))
    have q2' : (w2.drewN nq).heap[k2]? = _ := (drewN_heap w2 nq k2).trans q2
    have q4' : (w2.drewN nq).heap[k4]? = _ := (drewN_heap w2 nq k4).trans q4
    have hb3 := hb2.trans (below_drewNg w2 nq w.heap.size)
    clear cA cP c5 q2 q4 hb2 hC2
    generalize w2.drewN nq = w3 at hb3 q2' q4' ⊢
    go_wp2_with fail
    refine (plain_any g a B S D Q pv ps w3 (H.out.below hb3) (row_under HP.out hb3) HPS.out (Nat.le_trans HBW.out hb3.size)).mono ?_
    intro e w4 hT
    obtain ⟨hK4, pv', t, ok, rfl, hC4, hm⟩ := text_field hT
    have p2 := (hK4.others k2 _ 50 _ q2' hne2 (by decide)).trans q2'
    have p4 := (hK4.others k4 _ 50 _ q4' hne4 (by decide)).trans q4'
    have hKw := (CKept.below (g := g) hb3 HBW.out).trans hK4
    clear hT hK4 q2' q4' hb3
    have m0 := cell_at p4 0
    have m1 := cell_at p4 1
    have m2 := cell_at p4 2
    have m0f := free_at p4 0
    have n0 := cell_at p2 0
    have n1 := cell_at p2 1
    have n2 := cell_at p2 2
    have n0f := free_at p2 0
    have n1f := free_at p2 1
    have n2f := free_at p2 2
    simp only [List.getElem?_toArray, List.getElem?_cons_zero, List.getElem?_cons_succ] at m0 m1 m2 n0 n1 n2
    have HM := hid hm
    have HC4 := hid hC4
    have HKw := hid hKw
    have P2 := hid p2
    have P4 := hid p4
    clear hm hC4 hKw p2 p4
    have hk42 := hk24.symm
    go_wp2
    obtain ⟨w5, hw5⟩ : ∃ w5, w5 = (((w4.setCell ⟨k4, 0, none⟩ (.string ⟨t.toArray⟩)).setCell ⟨k2, 0, none⟩ (.string ⟨t.toArray⟩)).setCell ⟨k2, 1, none⟩ (.int .i64 (colP (lst S) a))).setCell ⟨k2, 2, none⟩ (.bool false) := ⟨_, rfl⟩
    rw [← hw5]
    refine bodyPost_ret (v := .tuple #[.agg #[.string ⟨t.toArray⟩, .int .i64 (colP (lst S) a), .bool false], .bool ok]) (results_ct rfl _ _ _ ⟨k2, 0, none⟩ _ _ rfl rfl (load50 (fin50 P2.out ⟨_, _, _, rfl⟩ hk24 hw5))) rfl ?_
    rw [HQP.out]
    exact fin_field HKw.out HBW.out HC4.out hne2.symm hne4.symm hge2' hge4 P2.out P4.out HM.out (fun f x h => plain_form _ _ _ _ f x h) hw5
end Go.Proofs.YtcpkefjijinhiaaDoor
