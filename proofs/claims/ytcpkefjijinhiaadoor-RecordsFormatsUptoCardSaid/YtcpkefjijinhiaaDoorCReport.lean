/-
  The code's reader of layer 2: report, giveUpLine. Conditions: the reader lies in memory; its text has at most 65536 bytes; the problems are a row of the call's own.
-/
import Derived.Test.YtcpkefjijinhiaaDoorCPass
import Derived.Deep.RegionLaw
set_option linter.unusedVariables false
namespace Go.Proofs.YtcpkefjijinhiaaDoor
open Go Go.Proofs Go.RowKit Go.Lib

/-- append to a row of the call's own, as one step of a region that draws its order. -/
theorem step_append_own {P : Program} {ops : Array Oper} {o : Oper} {a : Act} {w : World} {K : Act → World → Prop} {Q : Exit → Act → World → Prop} {E : Prop}
    (hg : o.guard = none) (s x : Operand) (t : TypeId) (hop : o.op = Op.call { callee := Callee.builtin Builtin.append, args := #[s, x], argTypes := #[t, t] })
    (B : Nat) (e : TypeId) (i : TypeInfo) (z : Value) (size bytes : Nat) (h1 : P.underlying t = some (.slice e)) (h2 : P.info? e = some i) (h3 : i.zero = some z) (h4 : i.size = size) (h5 : i.bytes = bytes) (h6 : z.cells.size = size) (h7 : 0 < size)
    (v : Value) (n : Nat) (xs : List Value) (hs : a.eval s = v) (hown : w.ownsRow B e size v n xs)
    (ad : Addr) (m c : Nat) (news : List Value) (hx : a.eval x = .slice (some ad) m c) (hn : news.length = m * size) (hc : ∀ j u, news[j]? = some u → w.cell? (ad.add j) = some u) (h1c : ∀ u ∈ news, u.oneCell' = true)
    (b1 : n + m ≤ maxLen) (b2 : (n + m) * bytes ≤ 140737488355328) (hB : B ≤ w.heap.size)
    (hK : ∀ v' w', w'.ownsRow B e size v' (n + m) (xs ++ news) → w.grownBy w' v.ownBlock → K (a.put o.dst v') w') :
    if Region.wanted o (yielded ops a.tmps) = true then Oper.wp P o a w K Q else E := by
  have hw : Region.wanted o (yielded ops a.tmps) = true := by simp [Region.wanted, hg]
  rw [if_pos hw]
  obtain ⟨v', w', hrun, r1, r2, _⟩ := run_append_own (P := P) w B t o.type e i z size bytes h1 h2 h3 h4 h5 h6 h7 v n xs hown ad m c news hn hc h1c b1 b2 hB
  unfold Oper.wp
  simp [execOp, hop, resolve, invoke, builtin, hs, hx, hrun, Result.andThen]
  exact hK v' w' r1 r2
theorem row_drawn {w : World} {B e z n : Nat} {v : Value} {xs : List Value} (h : w.ownsRow B e z v n xs) (q : Nat) : (w.drewN q).ownsRow B e z v n xs :=
  (Rolled.drawn w.heap.size w q).row h (fun e => by have := (h.lt _ e).2; omega)

/-- What stays when the reader's problems may have grown: all below B, and all blocks of other types but the reader's own. -/
structure CKept (B g : Nat) (w w' : World) : Prop where
  os : w'.os = w.os
  tape : w'.tape = w.tape
  output : w'.output = w.output
  size : w.heap.size ≤ w'.heap.size
  low : ∀ k, k < B → k ≠ g → w'.heap[k]? = w.heap[k]?
  others : ∀ k c T fz, w.heap[k]? = some (.cells c T fz) → k ≠ g → T ≠ 77 → w'.heap[k]? = w.heap[k]?
theorem CKept.refl (B g : Nat) (w : World) : CKept B g w w := ⟨rfl, rfl, rfl, Nat.le_refl _, fun _ _ _ => rfl, fun _ _ _ _ _ _ _ => rfl⟩
theorem CKept.trans {B g : Nat} {a b c : World} (h : CKept B g a b) (k : CKept B g b c) : CKept B g a c :=
  ⟨k.os.trans h.os, k.tape.trans h.tape, k.output.trans h.output, Nat.le_trans h.size k.size, fun i hi hg => (k.low i hi hg).trans (h.low i hi hg),
   fun i c T fz hc hg hT => (k.others i c T fz ((h.others i c T fz hc hg hT).trans hc) hg hT).trans (h.others i c T fz hc hg hT)⟩
theorem CKept.rolled {B g : Nat} {w w' : World} (h : Rolled g w w') : CKept B g w w' :=
  ⟨h.os, h.tape, h.output, by rw [h.size]; exact Nat.le_refl _, fun k _ hg => h.block k hg, fun k _ _ _ _ hg _ => h.block k hg⟩

theorem new_cells {w : World} {H : Nat} (hH : w.heap.size = H) (l : List Value) (T : TypeId) : ∀ (j : Nat) (u : Value), l[j]? = some u → (w.alloc (.cells l.toArray T)).cell? ((⟨H, 0, none⟩ : Addr).add j) = some u := by
  intro j u hj
  subst hH
  rw [Addr.add_lit, Nat.zero_add, cell_at (heap_alloc_new w _)]
  simpa using hj
theorem prob_one (a b c d : Int) : ∀ u ∈ [Value.int .i64 a, .int .i64 b, .int .i64 c, .int .i64 d], u.oneCell' = true := by
  intro u hu
  simp at hu
  rcases hu with rfl | rfl | rfl | rfl <;> rfl
theorem CRd.store {w : World} {g a : Nat} {S : ByteArray} {D Q : UInt8} {pv : Value} (h : CRd w g S D Q a pv) (v : Value) : CRd (w.setCell ⟨g, 6, none⟩ v) g S D Q a v :=
  ⟨by rw [heap_setCell_same w g 6 _ _ _ h.cells]; rfl, h.le, h.small⟩
theorem prob_ne {w : World} {B g : Nat} {pv : Value} {ps : List Prob} (h : ProbRow w B pv ps) {cs : Array Value} {T : TypeId} {fz : Nat × Nat} (hb : w.heap[g]? = some (.cells cs T fz)) (hT : T ≠ 77) : pv.ownBlock ≠ some g := by
  intro e
  obtain ⟨c, hc⟩ := row_kind h g e
  rw [hc] at hb
  injection hb with hb
  injection hb with _ ht _
  exact hT ht.symm

theorem rep_facts {w w' : World} {g a B q m : Nat} {S : ByteArray} {D Q : UInt8} {pv v : Value} {xs : List Value} {o : Obj} (h : CRd w g S D Q a pv) (hne : pv.ownBlock ≠ some g) (hgl : g < w.heap.size) (hown : w'.ownsRow B 77 4 v m xs) (hgrow : ((w.drewN q).alloc o).grownBy w' pv.ownBlock) :
    ∃ A cp, v = .slice A m cp ∧ CRd w' g S D Q a pv := by
  obtain ⟨A, cp, hv⟩ := row_slice hown
  refine ⟨A, cp, hv, h.rolled ?_⟩
  have h1 : g < (w.drewN q).heap.size := by rw [(Rolled.drawn 0 w q).size]; exact hgl
  have h2 : g < ((w.drewN q).alloc o).heap.size := by rw [show ((w.drewN q).alloc o).heap.size = (w.drewN q).heap.size + 1 by simp]; omega
  exact (hgrow.block g h2 (fun e => hne e.symm)).trans ((Below.heap_alloc _ _ _ h1).trans (drewN_heap w q g))

theorem rep_done {w w' : World} {g a B q : Nat} {S : ByteArray} {D Q : UInt8} {pv v : Value} {ps : List Prob} {l c e : Int} {o : Obj} (hp : ProbRow w B pv ps) (hBw : B ≤ w.heap.size) (hR' : CRd w' g S D Q a pv)
    (hown : w'.ownsRow B 77 4 v (ps.length + 1) (probCells ps ++ [.int .i64 0, .int .i64 l, .int .i64 c, .int .i64 e])) (hgrow : ((w.drewN q).alloc o).grownBy w' pv.ownBlock) :
    CRd (w'.setCell ⟨g, 6, none⟩ v) g S D Q a v ∧ ProbRow (w'.setCell ⟨g, 6, none⟩ v) B v (ps ++ [⟨l, c, e⟩]) ∧ CKept B g w (w'.setCell ⟨g, 6, none⟩ v) := by
  have hrow : ProbRow w' B v (ps ++ [⟨l, c, e⟩]) := by
    unfold ProbRow
    rw [probCells_app, List.length_append]
    exact hown
  have hRo := Rolled.set g 6 w' v
  have hs1 : (w.drewN q).heap.size = w.heap.size := (Rolled.drawn 0 w q).size
  have hs2 : ((w.drewN q).alloc o).heap.size = w.heap.size + 1 := by rw [show ((w.drewN q).alloc o).heap.size = (w.drewN q).heap.size + 1 by simp, hs1]
  have hold : ∀ k, k < w.heap.size → pv.ownBlock ≠ some k → k ≠ g → (w'.setCell ⟨g, 6, none⟩ v).heap[k]? = w.heap[k]? := fun k hk hne hkg =>
    (hRo.block k hkg).trans ((hgrow.block k (by rw [hs2]; omega) (fun e => hne e.symm)).trans ((Below.heap_alloc _ _ _ (by rw [hs1]; exact hk)).trans (drewN_heap w q k)))
  have hd := Rolled.drawn 0 w q
  refine ⟨hR'.store v, hRo.row hrow (prob_ne hrow hR'.cells (by decide)), ?_, ?_, ?_, ?_, ?_, ?_⟩
  · rw [hRo.os, hgrow.os]; exact hd.os
  · rw [hRo.tape, hgrow.tape]; exact hd.tape
  · rw [hRo.output, hgrow.output]; exact hd.output
  · rw [hRo.size]; have := hgrow.size; rw [hs2] at this; omega
  · exact fun k hk hkg => hold k (by omega) (fun e => by have := (World.ownsRow.lt hp k e).1; omega) hkg
  · exact fun k cs T fz hc hkg hT => hold k (Array.getElem?_eq_some_iff.1 hc).1 (prob_ne hp hc hT) hkg

set_option maxHeartbeats 4000000 in
set_option maxRecDepth 100000 in
theorem report_any (g a B : Nat) (S : ByteArray) (D Q : UInt8) (pv : Value) (ps : List Prob) (e : Int) (w : World) (h : CRd w g S D Q a pv) (hp : ProbRow w B pv ps) (hps : ps.length ≤ 1000000) (hBw : B ≤ w.heap.size) :
    Calls Tryd.prog 41 #[.pointer (some ⟨g, 0, none⟩), .int .i64 e] w fun r w' => r = .returned (.tuple #[]) ∧ ∃ pv', CRd w' g S D Q a pv' ∧ ProbRow w' B pv' (ps ++ [⟨lineOf (lst S) a, colP (lst S) a, e⟩]) ∧ CKept B g w w' := by
  have cC := fun w' (h' : CRd w' g S D Q a pv) => col_any g a S D Q pv w' h'
  have h1 := h.c1
  have h6 := h.c6
  have f6 := h.free 6
  obtain ⟨i77, hi77, hz77, hsi77, hby77⟩ := info_parts infoProb
  obtain ⟨A, cp, hpv⟩ := row_slice hp
  subst hpv
  have hgB := prob_ne hp h.cells (by decide)
  have HC3 : Hid (ps.length + 1 ≤ maxLen) := by unfold maxLen; exact hid (by omega)
  have HC4 : Hid ((ps.length + 1) * 32 ≤ 140737488355328) := hid (by omega)
  have H := hid h
  have HP := hid hp
  have CC := hid cC
  have HBW := hid hBw
  have HGB := hid hgB
  have hglt := (Array.getElem?_eq_some_iff.1 h.cells).1
  have hgl : Hid (g < w.heap.size) := hid hglt
  have k6 : ∀ n o, ((w.drewN n).alloc o).cell? ⟨g, 6, none⟩ = some (.slice A ps.length cp) := fun n o =>
    (World.cell?_of_block (w := w) (a := ⟨g, 6, none⟩) ((Below.heap_alloc _ _ _ (by rw [(Rolled.drawn 0 w n).size]; exact hglt)).trans (drewN_heap w n g))).trans h6
  have ne1 : w.heap.size ≠ g := by omega
  have ne2 : g ≠ w.heap.size := by omega
  clear h hp cC hBw hgB hps hglt
  go_enter Tryd.func41, Tryd.ntmps41
  go_wp2_with fail
  go_region_law (first
    | (go_simp; go_at_call 54; refine (CC.out _ (H.out.drawn 1)).mono ?_; rintro e w' ⟨rfl, q, rfl⟩)
    | (refine step_append_own ?_ (.tmp 8) (.tmp 20) 42 ?_ B 77 i77 (.agg #[.int .i64 0, .int .i64 0, .int .i64 0, .int .i64 0]) 4 32 Tryd.underlying42 hi77 hz77 hsi77 hby77 ?_ ?_ (.slice A ps.length cp) ps.length (probCells ps) ?_ ?_ ⟨w.heap.size, 0, none⟩ 1 1 [.int .i64 0, .int .i64 (lineOf (lst S) a : Int), .int .i64 (colP (lst S) a), .int .i64 e] ?_ ?_ ?_ ?_ HC3.out HC4.out ?_ ?_
       · rfl
       · rfl
       · rfl
       · decide
       · simp [Act.eval]
       · exact World.ownsRow.alloc (row_drawn HP.out (1 + q)) _
       · simp [Act.eval]
       · rfl
       · exact new_cells (Rolled.drawn 0 w (1 + q)).size _ 77
       · exact prob_one _ _ _ _
       · exact Nat.le_trans HBW.out (by simp)
       intro v' w' hown hgrow
       obtain ⟨A', cp', hv', hR'⟩ := rep_facts H.out HGB.out hgl.out hown hgrow
       rw [hv'] at hown ⊢
       have c6' := CRd.c6 hR'
       have f6' := CRd.free hR' 6
       have HRR := hid hR'
       have HOWN := hid hown
       have HGROW := hid hgrow
       clear hown hgrow hR' hv'))
  all_goals
    go_wp2
    refine bodyPost_end (results_none rfl _ _ _) rfl ?_
    obtain ⟨hC, hPr, hK⟩ := rep_done HP.out HBW.out HRR.out HOWN.out HGROW.out
    first
      | exact ⟨rfl, _, hC, hPr, hK⟩
      | exact ⟨rfl, _, hC.drawn 1, row_drawn hPr 1, hK.trans (CKept.rolled (Rolled.drawn g _ 1))⟩

set_option maxHeartbeats 1000000 in
theorem giveUp_any (g a B : Nat) (S : ByteArray) (D Q : UInt8) (pv : Value) (ps : List Prob) (e : Int) (w : World) (h : CRd w g S D Q a pv) (hp : ProbRow w B pv ps) (hps : ps.length ≤ 1000000) (hBw : B ≤ w.heap.size) :
    Calls Tryd.prog 55 #[.pointer (some ⟨g, 0, none⟩), .int .i64 e] w fun r w' => r = .returned (.tuple #[]) ∧ ∃ pv', CRd w' g S D Q (nxt (lst S) a) pv' ∧ ProbRow w' B pv' (ps ++ [⟨lineOf (lst S) a, colP (lst S) a, e⟩]) ∧ CKept B g w w' := by
  have cR := report_any g a B S D Q pv ps e w h hp hps hBw
  clear h hp hps hBw
  go_enter Tryd.func55, Tryd.ntmps55
  go_wp2_with fail
  refine cR.mono ?_
  rintro r w1 ⟨rfl, pv', hC, hP, hK⟩
  go_wp2_with fail
  refine (skip_any g a S D Q pv' w1 hC).mono ?_
  rintro r w2 ⟨rfl, hC2, hRo⟩
  go_wp2
  refine bodyPost_end (results_none rfl _ _ _) rfl ?_
  exact ⟨rfl, pv', hC2, hRo.row hP (prob_ne hP hC.cells (by decide)), hK.trans (CKept.rolled hRo)⟩
end Go.Proofs.YtcpkefjijinhiaaDoor
