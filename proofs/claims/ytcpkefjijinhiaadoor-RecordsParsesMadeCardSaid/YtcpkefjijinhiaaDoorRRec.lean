/-
  The reference's record, as a function of the place. Conditions: the reader lies in memory; its text has at most 65536 bytes; neither the delimiter nor the quotation mark is a line feed.
-/
import Derived.Test.YtcpkefjijinhiaaDoorCRec
set_option linter.unusedVariables false
namespace Go.Proofs.YtcpkefjijinhiaaDoor
open Go Go.Proofs Go.RowKit Go.Lib

/-- The blocks that a record is read into. -/
structure RLoc (w : World) (F g k3 k4 k5 k7 : Nat) (D Q : UInt8) (l : Int) (fv : Value) : Prop where
  b3 : w.heap[k3]? = some (.cells #[.int .u8 D.toNat, .int .u8 Q.toNat] 23 (0, 0))
  b4 : w.heap[k4]? = some (.cells #[.int .i64 0, .slice none 0 0] 48 (0, 0))
  b5 : w.heap[k5]? = some (.cells #[.int .i64 0, .int .i64 0, .int .i64 0, .int .i64 0] 77 (0, 0))
  b7 : w.heap[k7]? = some (.cells #[.int .i64 l, fv] 48 (0, 0))
  lt : g < k3 ∧ k3 < k4 ∧ k4 < k5 ∧ k5 < k7 ∧ k7 < F
theorem RLoc.kept {w w' : World} {F g k3 k4 k5 k7 : Nat} {D Q : UInt8} {l : Int} {fv : Value} (h : RLoc w F g k3 k4 k5 k7 D Q l fv) (hk : ∀ k, g < k → k < F → w'.heap[k]? = w.heap[k]?) : RLoc w' F g k3 k4 k5 k7 D Q l fv := by
  have hl := h.lt
  exact ⟨(hk _ (by omega) (by omega)).trans h.b3, (hk _ (by omega) (by omega)).trans h.b4, (hk _ (by omega) (by omega)).trans h.b5, (hk _ (by omega) (by omega)).trans h.b7, h.lt⟩
theorem RLoc.facts {w : World} {F g k3 k4 k5 k7 : Nat} {D Q : UInt8} {l : Int} {fv : Value} (h : RLoc w F g k3 k4 k5 k7 D Q l fv) :
    (w.cell? ⟨k4, 0, none⟩ = some (.int .i64 0) ∧ w.cell? ⟨k4, 1, none⟩ = some (.slice none 0 0) ∧ w.frozen? ⟨k4, 0, none⟩ = false ∧ w.frozen? ⟨k4, 1, none⟩ = false) ∧
    (w.cell? ⟨k5, 0, none⟩ = some (.int .i64 0) ∧ w.cell? ⟨k5, 1, none⟩ = some (.int .i64 0) ∧ w.cell? ⟨k5, 2, none⟩ = some (.int .i64 0) ∧ w.cell? ⟨k5, 3, none⟩ = some (.int .i64 0) ∧
      w.frozen? ⟨k5, 0, none⟩ = false ∧ w.frozen? ⟨k5, 1, none⟩ = false ∧ w.frozen? ⟨k5, 2, none⟩ = false ∧ w.frozen? ⟨k5, 3, none⟩ = false) ∧
    (w.cell? ⟨k7, 0, none⟩ = some (.int .i64 l) ∧ w.cell? ⟨k7, 1, none⟩ = some fv ∧ w.frozen? ⟨k7, 1, none⟩ = false) ∧
    (w.cell? ⟨k3, 0, none⟩ = some (.int .u8 D.toNat) ∧ w.cell? ⟨k3, 1, none⟩ = some (.int .u8 Q.toNat)) :=
  ⟨⟨cell_at h.b4 0, cell_at h.b4 1, free_at h.b4 0, free_at h.b4 1⟩,
   ⟨cell_at h.b5 0, cell_at h.b5 1, cell_at h.b5 2, cell_at h.b5 3, free_at h.b5 0, free_at h.b5 1, free_at h.b5 2, free_at h.b5 3⟩,
   ⟨cell_at h.b7 0, cell_at h.b7 1, free_at h.b7 1⟩, ⟨cell_at h.b3 0, cell_at h.b3 1⟩⟩
theorem grown1 {w2 wq : World} {o : Obj} {fv : Value} {B n : Nat} {xs : List Value} (hF : w2.ownsRow B 50 3 fv n xs) (hg : (w2.alloc o).grownBy wq fv.ownBlock) {j : Nat} {c : Array Value} {T : TypeId} {fz : Nat × Nat} (hj : w2.heap[j]? = some (.cells c T fz)) (hT : T ≠ 50) :
    wq.heap[j]? = some (.cells c T fz) := by
  have hlt := (Array.getElem?_eq_some_iff.1 hj).1
  have h1 : (w2.alloc o).heap.size = w2.heap.size + 1 := by simp
  exact (hg.block j (by rw [h1]; omega) (fun e => row_ne hF hj hT e.symm)).trans ((Below.heap_alloc _ _ _ hlt).trans hj)
theorem grown1_below {w2 wq : World} {o : Obj} {fv : Value} {B n : Nat} {xs : List Value} (hF : w2.ownsRow B 50 3 fv n xs) (hg : (w2.alloc o).grownBy wq fv.ownBlock) (hB : B ≤ w2.heap.size) : Below B w2 wq := by
  have h1 : (w2.alloc o).heap.size = w2.heap.size + 1 := by simp
  exact ((Below.refl B w2).alloc hB _).grown hg (by rw [h1]; omega) (fun k hk => (World.ownsRow.lt hF k hk).1)
theorem RLoc.turn {w : World} {F g k3 k4 k5 k7 : Nat} {D Q : UInt8} {l : Int} {fv : Value} (h : RLoc w F g k3 k4 k5 k7 D Q l fv) (v : Value) : RLoc (w.setCell ⟨k7, 1, none⟩ v) F g k3 k4 k5 k7 D Q l v := by
  have hl := h.lt
  have hb := (Rolled.set k7 1 w v).block
  exact ⟨(hb _ (by omega)).trans h.b3, (hb _ (by omega)).trans h.b4, (hb _ (by omega)).trans h.b5, by rw [heap_setCell_same w k7 1 _ _ _ h.b7]; rfl, h.lt⟩
theorem out_world48 {w w8 w9 : World} {F g a k3 k4 k5 k7 : Nat} {S : ByteArray} {D Q : UInt8} {l : Int} {fv : Value} (hL : RLoc w8 F g k3 k4 k5 k7 D Q l fv) (hR : RdrAt w8 g S a) (hP : Played w.heap.size g w w8) (hk : w.heap.size ≤ k3)
    (x0 x1 y0 y1 y2 y3 : Value) (e : w9 = (((((w8.setCell ⟨k4, 0, none⟩ x0).setCell ⟨k4, 1, none⟩ x1).setCell ⟨k5, 0, none⟩ y0).setCell ⟨k5, 1, none⟩ y1).setCell ⟨k5, 2, none⟩ y2).setCell ⟨k5, 3, none⟩ y3) :
    w9.heap[k4]? = some (.cells #[x0, x1] 48 (0, 0)) ∧ w9.heap[k5]? = some (.cells #[y0, y1, y2, y3] 77 (0, 0)) ∧ RdrAt w9 g S a ∧ Played w.heap.size g w w9 ∧ (∀ B z n v xs, w8.ownsRow B 50 z v n xs → w9.ownsRow B 50 z v n xs) := by
  have hl := hL.lt
  subst e
  refine ⟨?_, ?_, ?_, ?_, ?_⟩
  · rw [(Rolled.set k5 3 _ y3).block _ (by omega), (Rolled.set k5 2 _ y2).block _ (by omega), (Rolled.set k5 1 _ y1).block _ (by omega), (Rolled.set k5 0 _ y0).block _ (by omega)]
    rw [heap_setCell_same _ k4 1 _ _ _ (heap_setCell_same _ k4 0 _ _ _ hL.b4)]
    rfl
  · have h2 : ((w8.setCell ⟨k4, 0, none⟩ x0).setCell ⟨k4, 1, none⟩ x1).heap[k5]? = some (.cells #[.int .i64 0, .int .i64 0, .int .i64 0, .int .i64 0] 77 (0, 0)) := by
      rw [(Rolled.set k4 1 _ x1).block _ (by omega), (Rolled.set k4 0 _ x0).block _ (by omega)]
      exact hL.b5
    rw [heap_setCell_same _ k5 3 _ _ _ (heap_setCell_same _ k5 2 _ _ _ (heap_setCell_same _ k5 1 _ _ _ (heap_setCell_same _ k5 0 _ _ _ h2)))]
    rfl
  · exact (((((hR.own (by omega) _).own (by omega) _).own (by omega) _).own (by omega) _).own (by omega) _).own (by omega) _
  · exact (((((hP.own (by omega) _).own (by omega) _).own (by omega) _).own (by omega) _).own (by omega) _).own (by omega) _
  · intro B z n v xs h
    have n4 := row_ne h hL.b4 (by decide)
    have n5 := row_ne h hL.b5 (by decide)
    exact (Rolled.set k5 3 _ y3).row ((Rolled.set k5 2 _ y2).row ((Rolled.set k5 1 _ y1).row ((Rolled.set k5 0 _ y0).row ((Rolled.set k4 1 _ x1).row ((Rolled.set k4 0 _ x0).row h n4) n4) n5) n5) n5) n5
def RecOutR (g : Nat) (S : ByteArray) (l : Int) (w : World) (r : RRes) (e : Ending) (w' : World) : Prop :=
  Played w.heap.size g w w' ∧ (∃ a', RdrAt w' g S a' ∧ nxt (lst S) a' = r.place) ∧ match r with
  | .ok fs x => ∃ fv, e = .returned (.tuple #[.agg #[.int .i64 l, fv], .agg #[.int .i64 0, .int .i64 0, .int .i64 0, .int .i64 0], .bool true]) ∧ FldRow w' w.heap.size fv fs
  | .bad p x => ∃ l A n c, e = .returned (.tuple #[.agg #[.int .i64 l, .slice A n c], probV p, .bool false])

set_option maxHeartbeats 4000000 in
set_option maxRecDepth 100000 in
theorem rrec_any (g a : Nat) (S : ByteArray) (D Q : UInt8) (w : World) (h : RdrAt w g S a) (cF : ∀ (a : Nat) (w : World), RdrAt w g S a → Calls Tryd.prog 60 #[.pointer (some ⟨g, 0, none⟩), .agg #[.int .u8 D.toNat, .int .u8 Q.toNat]] w (FieldOut g S w (fieldP (lst S) D Q a))) :
    Calls Tryd.prog 46 #[.pointer (some ⟨g, 0, none⟩), .agg #[.int .u8 D.toNat, .int .u8 Q.toNat]] w (RecOutR g S (lineOf (lst S) a) w (recP (lst S) D Q 12 [] a)) := by
  have hgl := (Array.getElem?_eq_some_iff.1 h.cells).1
  obtain ⟨R, hR⟩ : ∃ R, recP (lst S) D Q 12 [] a = R := ⟨_, rfl⟩
  rw [hR]
  have HR := hid hR
  obtain ⟨ln, hln⟩ : ∃ n : Int, (lineOf (lst S) a : Int) = n := ⟨_, rfl⟩
  rw [hln]
  obtain ⟨w3, hw3⟩ : ∃ w3, w3 = ((w.alloc (.cells #[.int .u8 D.toNat, .int .u8 Q.toNat] 23)).alloc (.cells #[.int .i64 0, .slice none 0 0] 48)).alloc (.cells #[.int .i64 0, .int .i64 0, .int .i64 0, .int .i64 0] 77) := ⟨_, rfl⟩
  have hs1 : (w.alloc (.cells #[.int .u8 D.toNat, .int .u8 Q.toNat] 23)).heap.size = w.heap.size + 1 := by simp
  have hs2 : ((w.alloc (.cells #[.int .u8 D.toNat, .int .u8 Q.toNat] 23)).alloc (.cells #[.int .i64 0, .slice none 0 0] 48)).heap.size = w.heap.size + 1 + 1 := by simp
  have hs3 : w3.heap.size = w.heap.size + 1 + 1 + 1 := by rw [hw3]; simp
  have hRd3 : RdrAt w3 g S a := by rw [hw3]; exact ((h.alloc _).alloc _).alloc _
  have hP3 : Played w.heap.size g w w3 := by
    rw [hw3]
    exact (((Played.refl w.heap.size g w).alloc _ (Nat.le_refl _)).alloc _ (by rw [hs1]; omega)).alloc _ (by rw [hs2]; omega)
  have q3 : w3.heap[w.heap.size]? = some (.cells #[.int .u8 D.toNat, .int .u8 Q.toNat] 23 (0, 0)) := by
    rw [hw3, Below.heap_alloc _ _ _ (by rw [hs2]; omega), Below.heap_alloc _ _ _ (by rw [hs1]; omega)]
    exact heap_alloc_new w _
  have q4 : w3.heap[w.heap.size + 1]? = some (.cells #[.int .i64 0, .slice none 0 0] 48 (0, 0)) := by
    rw [hw3, Below.heap_alloc _ _ _ (by rw [hs2]; omega), ← hs1]
    exact heap_alloc_new _ _
  have q5 : w3.heap[w.heap.size + 1 + 1]? = some (.cells #[.int .i64 0, .int .i64 0, .int .i64 0, .int .i64 0] 77 (0, 0)) := by
    rw [hw3, ← hs2]
    exact heap_alloc_new _ _
  have HW3 := hid hw3
  clear h hR hs1 hs2 hw3
  go_enter Tryd.func46, Tryd.ntmps46
  go_upto_region 1 with fail
  rw [← HW3.out]
  clear HW3
  have hord : g < w.heap.size ∧ w.heap.size < w.heap.size + 1 ∧ w.heap.size + 1 < w.heap.size + 1 + 1 ∧ w.heap.size + 1 + 1 < w3.heap.size ∧ w.heap.size ≤ w.heap.size := by omega
  clear hs3 hgl
  generalize w.heap.size + 1 + 1 = k5 at q5 hord ⊢
  generalize w.heap.size + 1 = k4 at q4 hord ⊢
  obtain ⟨k3, hk3⟩ : ∃ k3, w.heap.size = k3 := ⟨_, rfl⟩
  have HK3 := hid hk3
  rw [hk3] at q3 hord
  have hge : w.heap.size ≤ k3 := by omega
  clear hk3
  have hc2 := ReaderAt.c2 hRd3
  rw [hln] at hc2
  have ne7 : w3.heap.size ≠ g := by omega
  have ne7' := ne7.symm
  clear hln
  go_wp2_with fail
  rw [HK3.out]
  have hb4 : Below w3.heap.size w3 (w3.alloc (.cells #[.int .i64 ln, .slice none 0 0] 48)) := Below.alloc (Below.refl _ _) (Nat.le_refl _) _
  have q7 : (w3.alloc (.cells #[.int .i64 ln, .slice none 0 0] 48)).heap[w3.heap.size]? = some (.cells #[.int .i64 ln, .slice none 0 0] 48 (0, 0)) := heap_alloc_new w3 _
  have hs4 : (w3.alloc (.cells #[.int .i64 ln, .slice none 0 0] 48)).heap.size = w3.heap.size + 1 := by simp
  have hL4 : RLoc (w3.alloc (.cells #[.int .i64 ln, .slice none 0 0] 48)) (w3.heap.size + 1) g k3 k4 k5 w3.heap.size D Q ln (.slice none 0 0) :=
    ⟨(hb4.block _ (by omega)).trans q3, (hb4.block _ (by omega)).trans q4, (hb4.block _ (by omega)).trans q5, q7, by omega⟩
  have hR4 : RdrAt (w3.alloc (.cells #[.int .i64 ln, .slice none 0 0] 48)) g S a := hRd3.alloc _
  have hP4 : Played w.heap.size g w (w3.alloc (.cells #[.int .i64 ln, .slice none 0 0] 48)) := hP3.alloc _ (by omega)
  have hs4' : w3.heap.size + 1 ≤ (w3.alloc (.cells #[.int .i64 ln, .slice none 0 0] 48)).heap.size := by rw [hs4]; exact Nat.le_refl _
  clear hs4 hb4 q7 q3 q4 q5 hRd3 hP3 hc2 ne7 ne7'
  generalize w3.alloc (.cells #[.int .i64 ln, .slice none 0 0] 48) = w4 at hL4 hR4 hP4 hs4' ⊢
  generalize w3.heap.size = k7 at hL4 hs4' hord ⊢
  have HLT := hid hL4.lt
  have HL4 := hid hL4
  have HR4 := hid hR4
  have HP4 := hid hP4
  clear hL4 hR4 hP4
  obtain ⟨i50, hi50, hz50, hsi50, hby50⟩ := info_parts infoFld
  go_loopg [6] 14 (fun gk s6 wx => s6 = .bool false ∧ ∃ (a' : Nat) (fs : List Fld) (fv : Value), Hid (RdrAt wx g S a') ∧ Hid (RLoc wx (k7 + 1) g k3 k4 k5 k7 D Q ln fv) ∧ Hid (FldRow wx w.heap.size fv fs) ∧ fs.length ≤ 12 ∧ Hid (recP (lst S) D Q (12 - fs.length) fs a' = R) ∧ Hid (Played w.heap.size g w wx) ∧ k7 + 1 ≤ wx.heap.size ∧ 12 - fs.length < gk)
  case atStart => exact ⟨rfl, a, [], .slice none 0 0, HR4, HL4, hid (World.ownsRow_nil _ _ _ _), by simp, HR, HP4, hs4', by simp⟩
  case round =>
    obtain ⟨rfl, a', fs, fv, hRd, hLo, hF, hl12, hE, hPl, hsw, hgk⟩ := hrel
    obtain ⟨g', rfl⟩ : ∃ g', gk = g' + 1 := ⟨gk - 1, by omega⟩
    clear HR4 HL4 HP4 HR hs4'
    obtain ⟨Af, cf, rfl⟩ := row_slice hF.out
    obtain ⟨_, _, ⟨m0, m1, m1f⟩, ⟨d0, d1⟩⟩ := hLo.out.facts
    by_cases hfull : fs.length = 12
    · have heq : ((fs.length : Int) == 12) = true := by simp [hfull]
      have hRR : Hid (R = .bad ⟨lineOf (lst S) a', colP (lst S) a', 9⟩ (nxt (lst S) a')) := by
        have := hE.out
        rw [hfull] at this
        exact hid this.symm
      have HFULL := hid hfull
      clear hfull
      have cC := fun w' (h' : RdrAt w' g S a') => column_any g a' _ _ S w' h'
      have CC := hid cC
      clear cC
      have hc2 := ReaderAt.c2 hRd.out
      have HRd : Hid (RdrAt wr.drew g S a') := hid (hRd.out.drawn 1)
      obtain ⟨⟨p0, p1, p2, p3⟩, ⟨n0, n1, n2, n3, n4, n5, n6, n7⟩, _, _⟩ := hLo.out.facts
      clear d0 d1
      have hne : k4 ≠ k5 ∧ k4 ≠ g ∧ k5 ≠ g ∧ k4 ≠ k7 ∧ k5 ≠ k7 ∧ k7 ≠ g := by have := HLT.out; omega
      obtain ⟨ne45, ne4g, ne5g, ne47, ne57, ne7g⟩ := hne
      have ne54 := ne45.symm
      have neg4 := ne4g.symm
      have neg5 := ne5g.symm
      have ne74 := ne47.symm
      have ne75 := ne57.symm
      have neg7 := ne7g.symm
      go_wp2_with fail
      go_region_held3 (fun w' => w'.cell? ⟨g, 2, none⟩ = some (.int .i64 (lineOf (lst S) a' : Int)) ∧ w'.cell? ⟨k7, 0, none⟩ = some (.int .i64 ln) ∧ w'.cell? ⟨k7, 1, none⟩ = some (.slice Af fs.length cf)) (go_keep)
        (first | (go_at_call 59; refine (CC.out _ HRd.out).mono ?_; rintro e w' ⟨rfl, q', rfl⟩))
      all_goals go_wp2
      all_goals
        have HR5 := hid (hRd.out.drawn (1 + q'))
        have HP5 := hid (hPl.out.drawn (1 + q'))
        have HL5 := hid (hLo.out.kept (w' := wr.drewN (1 + q')) (fun k _ _ => drewN_heap wr (1 + q') k))
        obtain ⟨w14, hw14⟩ : ∃ w14, w14 = wr.drewN (1 + q') := ⟨_, rfl⟩
        rw [← hw14] at HR5 HP5 HL5 ⊢
        obtain ⟨wx, hwx⟩ : ∃ wx, wx = (((((w14.setCell ⟨k4, 0, none⟩ (.int .i64 ln)).setCell ⟨k4, 1, none⟩ (.slice Af fs.length cf)).setCell ⟨k5, 0, none⟩ (.int .i64 0)).setCell ⟨k5, 1, none⟩ (.int .i64 (lineOf (lst S) a' : Int))).setCell ⟨k5, 2, none⟩ (.int .i64 ((a' : Int) - (begOf (lst S) a' : Int) + 1))).setCell ⟨k5, 3, none⟩ (.int .i64 9) := ⟨_, rfl⟩
        rw [← hwx]
        obtain ⟨q1, q2, hR9, hP9, hF9⟩ := out_world48 HL5.out HR5.out HP5.out hge _ _ _ _ _ _ hwx
        refine bodyPost_ret (v := .tuple #[.agg #[.int .i64 ln, .slice Af fs.length cf], .agg #[.int .i64 0, .int .i64 (lineOf (lst S) a' : Int), .int .i64 ((a' : Int) - (begOf (lst S) a' : Int) + 1), .int .i64 9], .bool false]) (results_cct rfl _ _ _ ⟨k4, 0, none⟩ ⟨k5, 0, none⟩ _ _ _ rfl rfl rfl (load48 q1) (load77 q2)) rfl ?_
        rw [hRR.out]
        exact ⟨hP9, ⟨a', hR9, rfl⟩, _, _, _, _, rfl⟩
    · have heq : ((fs.length : Int) == 12) = false := by simp; omega
      obtain ⟨m, hm⟩ : ∃ m, 12 - fs.length = m + 1 := ⟨12 - fs.length - 1, by omega⟩
      have hE2 := hE.out
      rw [hm] at hE2
      have HE2 := hid hE2
      clear hE2 hE
      go_wp2_with fail
      refine (cF a' wr hRd.out).mono ?_
      rintro e w2 ⟨hP2, hmm⟩
      have hPw := hPl.out.trans hP2 (Nat.le_trans (by omega : w.heap.size ≤ k7 + 1) hsw)
      have hL2 := hLo.out.kept (w' := w2) (fun k h1 h2 => hP2.block k (by omega) (by omega))
      have hF2 : FldRow w2 w.heap.size (.slice Af fs.length cf) fs := hP2.row hF.out (fun k hk => ⟨(World.ownsRow.lt hF.out k hk).2, fun e => by subst e; exact row_ne hF.out hRd.out.cells (by decide) hk⟩)
      have hs2 : k7 + 1 ≤ w2.heap.size := Nat.le_trans hsw hP2.size
      obtain ⟨⟨p0, p1, p2, p3⟩, ⟨n0, n1, n2, n3, n4, n5, n6, n7⟩, ⟨m0', m1', m1f'⟩, _⟩ := hL2.facts
      have HL2 := hid hL2
      have HPw := hid hPw
      have HF2 := hid hF2
      clear m0 m1 m1f d0 d1 hL2 hPw hF2 hP2 hPl hF hLo hRd
      obtain ⟨fr, hfr⟩ : ∃ r, fieldP (lst S) D Q a' = r := ⟨_, rfl⟩
      rw [hfr] at hmm
      have HFR := hid hfr
      clear hfr
      cases fr with
      | ok f x =>
        obtain ⟨rfl, hR2⟩ := hmm
        have HR2 := hid hR2
        clear hR2
        unfold fldV strV
        go_upto_region 7 with fail
        have hs21 : (w2.alloc (.cells #[.string ⟨f.text.toArray⟩, .int .i64 f.col, .bool f.quoted] 50)).heap.size = w2.heap.size + 1 := by simp
        have hs22 : ((w2.alloc (.cells #[.string ⟨f.text.toArray⟩, .int .i64 f.col, .bool f.quoted] 50)).alloc (.cells #[.int .i64 0, .int .i64 0, .int .i64 0, .int .i64 0] 77)).heap.size = w2.heap.size + 1 + 1 := by simp
        have hold : ∀ k, k < w2.heap.size → ((w2.alloc (.cells #[.string ⟨f.text.toArray⟩, .int .i64 f.col, .bool f.quoted] 50)).alloc (.cells #[.int .i64 0, .int .i64 0, .int .i64 0, .int .i64 0] 77)).heap[k]? = w2.heap[k]? := fun k hk => (Below.heap_alloc _ _ _ (by rw [hs21]; omega)).trans (Below.heap_alloc _ _ _ hk)
        have q8 : ((w2.alloc (.cells #[.string ⟨f.text.toArray⟩, .int .i64 f.col, .bool f.quoted] 50)).alloc (.cells #[.int .i64 0, .int .i64 0, .int .i64 0, .int .i64 0] 77)).heap[w2.heap.size]? = some (.cells #[.string ⟨f.text.toArray⟩, .int .i64 f.col, .bool f.quoted] 50 (0, 0)) := (Below.heap_alloc _ _ _ (by rw [hs21]; omega)).trans (heap_alloc_new w2 _)
        have q9 : ((w2.alloc (.cells #[.string ⟨f.text.toArray⟩, .int .i64 f.col, .bool f.quoted] 50)).alloc (.cells #[.int .i64 0, .int .i64 0, .int .i64 0, .int .i64 0] 77)).heap[w2.heap.size + 1]? = some (.cells #[.int .i64 0, .int .i64 0, .int .i64 0, .int .i64 0] 77 (0, 0)) := heap_alloc2_new _ _ _
        have hL6 := HL2.out.kept (fun k _ h => hold k (by omega))
        have hF6 : FldRow ((w2.alloc (.cells #[.string ⟨f.text.toArray⟩, .int .i64 f.col, .bool f.quoted] 50)).alloc (.cells #[.int .i64 0, .int .i64 0, .int .i64 0, .int .i64 0] 77)) w.heap.size (.slice Af fs.length cf) fs := World.ownsRow.alloc (World.ownsRow.alloc HF2.out _) _
        have hP6 := (HPw.out.alloc (.cells #[.string ⟨f.text.toArray⟩, .int .i64 f.col, .bool f.quoted] 50) (by have := HLT.out; omega)).alloc (.cells #[.int .i64 0, .int .i64 0, .int .i64 0, .int .i64 0] 77) (by rw [hs21]; have := HLT.out; omega)
        have hRr : ∀ a2, RdrAt w2 g S a2 → RdrAt ((w2.alloc (.cells #[.string ⟨f.text.toArray⟩, .int .i64 f.col, .bool f.quoted] 50)).alloc (.cells #[.int .i64 0, .int .i64 0, .int .i64 0, .int .i64 0] 77)) g S a2 := fun a2 h => (h.alloc _).alloc _
        have hs6 : w2.heap.size + 1 + 1 ≤ ((w2.alloc (.cells #[.string ⟨f.text.toArray⟩, .int .i64 f.col, .bool f.quoted] 50)).alloc (.cells #[.int .i64 0, .int .i64 0, .int .i64 0, .int .i64 0] 77)).heap.size := by rw [hs22]; exact Nat.le_refl _
        clear hs21 hs22 hold HL2 HF2 HPw p0 p1 p2 p3 n0 n1 n2 n3 n4 n5 n6 n7 m0' m1' m1f'
        generalize (w2.alloc (.cells #[.string ⟨f.text.toArray⟩, .int .i64 f.col, .bool f.quoted] 50)).alloc (.cells #[.int .i64 0, .int .i64 0, .int .i64 0, .int .i64 0] 77) = w6 at q8 q9 hL6 hF6 hP6 hRr hs6 ⊢
        have hR6 := hRr x HR2.out
        have hlt8 : k7 + 1 ≤ w2.heap.size := hs2
        have c80 := cell_at q8 0
        have c81 := cell_at q8 1
        have c82 := cell_at q8 2
        simp only [List.getElem?_toArray, List.getElem?_cons_zero, List.getElem?_cons_succ] at c80 c81 c82
        obtain ⟨_, _, ⟨m0, m1, m1f⟩, _⟩ := hL6.facts
        generalize w2.heap.size = k8 at q8 q9 hs6 hlt8 c80 c81 c82 ⊢
        have HC3 : Hid (fs.length + 1 ≤ maxLen) := by unfold maxLen; exact hid (by omega)
        have HC4 : Hid ((fs.length + 1) * 32 ≤ 140737488355328) := hid (by omega)
        have hw6s : w.heap.size ≤ w6.heap.size := by have := HLT.out; omega
        have HC5 : Hid (∀ o : Obj, w.heap.size ≤ (w6.alloc o).heap.size) := hid (fun o => by simp; omega)
        have HL6 := hid hL6
        have HF6 := hid hF6
        have HP6 := hid hP6
        have HR6 := hid hR6
        clear hL6 hF6 hP6 hR6 hRr HR2 q8 q9
        go_wp2_with (at_builtin; refine wpList_append_own _ rfl _ _ 46 rfl w.heap.size 50 i50 (.agg #[.string ⟨#[]⟩, .int .i64 0, .bool false]) 3 32 Tryd.underlying46 hi50 hz50 hsi50 hby50 rfl (by decide) (.slice Af fs.length cf) fs.length (fldCells fs) rfl (World.ownsRow.alloc HF6.out _) ⟨w6.heap.size, 0, none⟩ 1 1 [.string ⟨f.text.toArray⟩, .int .i64 f.col, .bool f.quoted] rfl rfl (new_cells rfl _ 50) (fld_one _ _ _) HC3.out HC4.out (HC5.out _) ?_)
        intro v' wq hown' hgrow _
        obtain ⟨Aq, cq, rfl⟩ := row_slice hown'
        have hLq : RLoc wq (k7 + 1) g k3 k4 k5 k7 D Q ln (.slice Af fs.length cf) :=
          ⟨grown1 HF6.out hgrow HL6.out.b3 (by decide), grown1 HF6.out hgrow HL6.out.b4 (by decide), grown1 HF6.out hgrow HL6.out.b5 (by decide), grown1 HF6.out hgrow HL6.out.b7 (by decide), HL6.out.lt⟩
        have hRq : RdrAt wq g S x := ⟨grown1 HF6.out hgrow HR6.out.cells (by decide), HR6.out.le, HR6.out.from', HR6.out.lines, HR6.out.small⟩
        have hbq := grown1_below HF6.out hgrow hw6s
        have hPq := HP6.out.below hbq
        have hsq : k7 + 1 ≤ wq.heap.size := Nat.le_trans (by omega : k7 + 1 ≤ w6.heap.size) hbq.size
        have y1 := hLq.facts.2.2.1.2.1
        have y1f := hLq.facts.2.2.1.2.2
        have hk7 : g ≠ k7 ∧ w.heap.size ≤ k7 := by have := HLT.out; omega
        have hL7 := hLq.turn (.slice Aq (fs.length + 1) cq)
        have hR7 := hRq.own (show g < k7 by have := HLT.out; omega) (j := 1) (.slice Aq (fs.length + 1) cq)
        have hP7 := hPq.own hk7.2 (j := 1) (.slice Aq (fs.length + 1) cq)
        have hF7 : FldRow (wq.setCell ⟨k7, 1, none⟩ (.slice Aq (fs.length + 1) cq)) w.heap.size (.slice Aq (fs.length + 1) cq) (fs ++ [f]) := by
          unfold FldRow
          rw [fldCells_snoc, List.length_append]
          exact (Rolled.set k7 1 wq _).row hown' (row_ne hown' hLq.b7 (by decide))
        have hs7 : k7 + 1 ≤ (wq.setCell ⟨k7, 1, none⟩ (.slice Aq (fs.length + 1) cq)).heap.size := by rw [(Rolled.set k7 1 wq _).size]; exact hsq
        have HL7 := hid hL7
        have HR7 := hid hR7
        have HP7 := hid hP7
        have HF7 := hid hF7
        clear hown' hgrow hLq hRq hbq hPq hL7 hR7 hP7 hF7 HL6 HR6 HP6 HF6 m0 m1 m1f c80 c81 c82 HC3 HC4 HC5
        go_wp2_with fail
        clear y1 y1f
        generalize wq.setCell ⟨k7, 1, none⟩ (.slice Aq (fs.length + 1) cq) = w7 at HL7 HR7 HP7 HF7 hs7 ⊢
        have cE := ended_any g x _ _ S w7 HR7.out
        cases he : endL ((lst S).drop x) with
        | true =>
          rw [he] at cE
          have hRR : Hid (R = .ok (fs ++ [f]) (nxt (lst S) x)) := by
            have := HE2.out
            unfold recP at this
            rw [HFR.out] at this
            simp only [he, if_true] at this
            exact hid this.symm
          clear he HE2
          refine cE.mono ?_
          rintro e w8 ⟨rfl, q8, rfl⟩
          have hL8 := HL7.out.kept (w' := w7.drewN q8) (fun k _ _ => drewN_heap w7 q8 k)
          have hR8 := HR7.out.drawn q8
          have hP8 := HP7.out.drawn q8
          have hF8 := row_drawn HF7.out q8
          clear HL7 HR7 HP7 HF7 hs7 cE
          generalize w7.drewN q8 = w8 at hL8 hR8 hP8 hF8 ⊢
          obtain ⟨⟨p0, p1, p2, p3⟩, ⟨n0, n1, n2, n3, n4, n5, n6, n7⟩, ⟨m0, m1, m1f⟩, _⟩ := hL8.facts
          have HL5 := hid hL8
          have HR5 := hid hR8
          have HP5 := hid hP8
          have HF5 := hid hF8
          clear hL8 hR8 hP8 hF8
          have hne : k4 ≠ k5 ∧ k4 ≠ k7 ∧ k5 ≠ k7 := by have := HLT.out; omega
          obtain ⟨ne45, ne47, ne57⟩ := hne
          have ne54 := ne45.symm
          have ne74 := ne47.symm
          have ne75 := ne57.symm
          go_wp2
          obtain ⟨wx, hwx⟩ : ∃ wx, wx = (((((w8.setCell ⟨k4, 0, none⟩ (.int .i64 ln)).setCell ⟨k4, 1, none⟩ (.slice Aq (fs.length + 1) cq)).setCell ⟨k5, 0, none⟩ (.int .i64 0)).setCell ⟨k5, 1, none⟩ (.int .i64 0)).setCell ⟨k5, 2, none⟩ (.int .i64 0)).setCell ⟨k5, 3, none⟩ (.int .i64 0) := ⟨_, rfl⟩
          rw [← hwx]
          obtain ⟨q1, q2, hR9, hP9, hF9⟩ := out_world48 HL5.out HR5.out HP5.out hge _ _ _ _ _ _ hwx
          refine bodyPost_ret (v := .tuple #[.agg #[.int .i64 ln, .slice Aq (fs.length + 1) cq], .agg #[.int .i64 0, .int .i64 0, .int .i64 0, .int .i64 0], .bool true]) (results_cct rfl _ _ _ ⟨k4, 0, none⟩ ⟨k5, 0, none⟩ _ _ _ rfl rfl rfl (load48 q1) (load77 q2)) rfl ?_
          rw [hRR.out]
          exact ⟨hP9, ⟨x, hR9, rfl⟩, _, rfl, hF9 _ _ _ _ _ HF5.out⟩
        | false =>
          rw [he] at cE
          have hRR : Hid (recP (lst S) D Q m (fs ++ [f]) (x + 1) = R) := by
            have := HE2.out
            unfold recP at this
            rw [HFR.out] at this
            simp only [he, Bool.false_eq_true, if_false] at this
            exact hid this
          have hxl := end_lt _ _ he
          rw [← Lib.size_eq] at hxl
          have hx10 : (S[x]'hxl).toNat ≠ 10 := by
            intro e
            have h := he
            rw [drop_at S x hxl, endL_cons] at h
            simp [e] at h
          clear he HE2
          refine cE.mono ?_
          rintro e w8 ⟨rfl, q8, rfl⟩
          have hL8 := HL7.out.kept (w' := w7.drewN q8) (fun k _ _ => drewN_heap w7 q8 k)
          have hR8 := HR7.out.drawn q8
          have hP8 := HP7.out.drawn q8
          have hF8 := row_drawn HF7.out q8
          have hs8 : k7 + 1 ≤ (w7.drewN q8).heap.size := by rw [(Rolled.drawn 0 w7 q8).size]; exact hs7
          clear HL7 HR7 HP7 HF7 hs7 cE
          generalize w7.drewN q8 = w8 at hL8 hR8 hP8 hF8 hs8 ⊢
          have hc1 := ReaderAt.c1 hR8
          have hf1 := ReaderAt.free hR8 1
          have e1 : IntKind.i64.wrap ((x : Int) + 1) = (x : Int) + 1 := IntWalk.i64_in _ (by have := hR8.small; omega)
          have hrs := Rolled.set g 1 w8 (.int .i64 ((x : Int) + 1))
          have HRn := hid (hR8.step hxl hx10)
          have HLn := hid (hL8.kept (w' := w8.setCell ⟨g, 1, none⟩ (.int .i64 ((x : Int) + 1))) (fun k h1 _ => hrs.block k (by omega)))
          have HPn := hid (hP8.rolled hrs)
          have HFn := hid (hrs.row hF8 (row_ne hF8 hR8.cells (by decide)))
          have hsn : k7 + 1 ≤ (w8.setCell ⟨g, 1, none⟩ (.int .i64 ((x : Int) + 1))).heap.size := by rw [hrs.size]; exact hs8
          clear hL8 hR8 hP8 hF8 hs8 hrs
          go_wp2
          go_roundg g'
          case measure => simp
          case rel =>
            refine ⟨rfl, x + 1, fs ++ [f], _, HRn, HLn, HFn, by simp; omega, hid ?_, HPn, hsn, by simp; omega⟩
            rw [List.length_append, show 12 - (fs.length + [f].length) = m by simp; omega]
            exact hRR.out
      | bad p x =>
        obtain ⟨⟨t, cc, q, rfl⟩, hR2⟩ := hmm
        unfold probV
        go_upto_region 5 with fail
        have hs21 : (w2.alloc (.cells #[.string t, .int .i64 cc, .bool q] 50)).heap.size = w2.heap.size + 1 := by simp
        have hs22 : ((w2.alloc (.cells #[.string t, .int .i64 cc, .bool q] 50)).alloc (.cells #[.int .i64 0, .int .i64 p.line, .int .i64 p.col, .int .i64 p.code] 77)).heap.size = w2.heap.size + 1 + 1 := by simp
        have hold : ∀ k, k < w2.heap.size → ((w2.alloc (.cells #[.string t, .int .i64 cc, .bool q] 50)).alloc (.cells #[.int .i64 0, .int .i64 p.line, .int .i64 p.col, .int .i64 p.code] 77)).heap[k]? = w2.heap[k]? := fun k hk => (Below.heap_alloc _ _ _ (by rw [hs21]; omega)).trans (Below.heap_alloc _ _ _ hk)
        have q8 : ((w2.alloc (.cells #[.string t, .int .i64 cc, .bool q] 50)).alloc (.cells #[.int .i64 0, .int .i64 p.line, .int .i64 p.col, .int .i64 p.code] 77)).heap[w2.heap.size]? = some (.cells #[.string t, .int .i64 cc, .bool q] 50 (0, 0)) := (Below.heap_alloc _ _ _ (by rw [hs21]; omega)).trans (heap_alloc_new w2 _)
        have q9 : ((w2.alloc (.cells #[.string t, .int .i64 cc, .bool q] 50)).alloc (.cells #[.int .i64 0, .int .i64 p.line, .int .i64 p.col, .int .i64 p.code] 77)).heap[w2.heap.size + 1]? = some (.cells #[.int .i64 0, .int .i64 p.line, .int .i64 p.col, .int .i64 p.code] 77 (0, 0)) := heap_alloc2_new _ _ _
        have hL6 := HL2.out.kept (fun k _ h => hold k (by omega))
        have hF6 : FldRow ((w2.alloc (.cells #[.string t, .int .i64 cc, .bool q] 50)).alloc (.cells #[.int .i64 0, .int .i64 p.line, .int .i64 p.col, .int .i64 p.code] 77)) w.heap.size (.slice Af fs.length cf) fs := World.ownsRow.alloc (World.ownsRow.alloc HF2.out _) _
        have hP6 := (HPw.out.alloc (.cells #[.string t, .int .i64 cc, .bool q] 50) (by have := HLT.out; omega)).alloc (.cells #[.int .i64 0, .int .i64 p.line, .int .i64 p.col, .int .i64 p.code] 77) (by rw [hs21]; have := HLT.out; omega)
        have hRr : ∀ a2, RdrAt w2 g S a2 → RdrAt ((w2.alloc (.cells #[.string t, .int .i64 cc, .bool q] 50)).alloc (.cells #[.int .i64 0, .int .i64 p.line, .int .i64 p.col, .int .i64 p.code] 77)) g S a2 := fun a2 h => (h.alloc _).alloc _
        have hs6 : w2.heap.size + 1 + 1 ≤ ((w2.alloc (.cells #[.string t, .int .i64 cc, .bool q] 50)).alloc (.cells #[.int .i64 0, .int .i64 p.line, .int .i64 p.col, .int .i64 p.code] 77)).heap.size := by rw [hs22]; exact Nat.le_refl _
        clear hs21 hs22 hold HL2 HF2 HPw p0 p1 p2 p3 n0 n1 n2 n3 n4 n5 n6 n7 m0' m1' m1f'
        generalize (w2.alloc (.cells #[.string t, .int .i64 cc, .bool q] 50)).alloc (.cells #[.int .i64 0, .int .i64 p.line, .int .i64 p.col, .int .i64 p.code] 77) = w6 at q8 q9 hL6 hF6 hP6 hRr hs6 ⊢
        obtain ⟨a2, hR2', hnx⟩ := hR2
        have hR6 := hRr a2 hR2'
        have c90 := cell_at q9 0
        have c91 := cell_at q9 1
        have c92 := cell_at q9 2
        have c93 := cell_at q9 3
        simp only [List.getElem?_toArray, List.getElem?_cons_zero, List.getElem?_cons_succ] at c90 c91 c92 c93
        obtain ⟨⟨p0, p1, p2, p3⟩, ⟨n0, n1, n2, n3, n4, n5, n6, n7⟩, ⟨m0, m1, m1f⟩, _⟩ := hL6.facts
        have hlt9 : k7 < w2.heap.size + 1 := by omega
        generalize w2.heap.size + 1 = k9 at q9 hlt9 c90 c91 c92 c93 ⊢
        have hRR : Hid (R = .bad p x) := by
          have := HE2.out
          unfold recP at this
          rw [HFR.out] at this
          exact hid this.symm
        have HL5' := hid hL6
        have HP5' := hid hP6
        have HR5' := hid hR6
        have HNX := hid hnx
        clear hL6 hF6 hP6 hR6 hRr q8 q9 hR2' hnx
        have hne : k4 ≠ k5 ∧ k4 ≠ g ∧ k5 ≠ g ∧ k4 ≠ k7 ∧ k5 ≠ k7 ∧ k7 ≠ g ∧ k4 ≠ k9 ∧ k5 ≠ k9 ∧ k7 ≠ k9 := by have := HLT.out; omega
        obtain ⟨ne45, ne4g, ne5g, ne47, ne57, ne7g, ne49, ne59, ne79⟩ := hne
        have ne54 := ne45.symm
        have ne74 := ne47.symm
        have ne75 := ne57.symm
        have ne94 := ne49.symm
        have ne95 := ne59.symm
        have ne97 := ne79.symm
        go_wp2
        go_region_held3 (fun w' => w'.cell? ⟨k7, 0, none⟩ = some (.int .i64 ln) ∧ w'.cell? ⟨k7, 1, none⟩ = some (.slice Af fs.length cf) ∧ w'.cell? ⟨k9, 0, none⟩ = some (.int .i64 0) ∧ w'.cell? ⟨k9, 1, none⟩ = some (.int .i64 p.line) ∧ w'.cell? ⟨k9, 2, none⟩ = some (.int .i64 p.col) ∧ w'.cell? ⟨k9, 3, none⟩ = some (.int .i64 p.code)) (go_keep) (fail)
        all_goals go_wp2
        all_goals
          obtain ⟨wx, hwx⟩ : ∃ wx, wx = (((((w6.setCell ⟨k4, 0, none⟩ (.int .i64 ln)).setCell ⟨k4, 1, none⟩ (.slice Af fs.length cf)).setCell ⟨k5, 0, none⟩ (.int .i64 0)).setCell ⟨k5, 1, none⟩ (.int .i64 p.line)).setCell ⟨k5, 2, none⟩ (.int .i64 p.col)).setCell ⟨k5, 3, none⟩ (.int .i64 p.code) := ⟨_, rfl⟩
          rw [← hwx]
          obtain ⟨q1, q2, hR9, hP9, hF9⟩ := out_world48 HL5'.out HR5'.out HP5'.out hge _ _ _ _ _ _ hwx
          refine bodyPost_ret (v := .tuple #[.agg #[.int .i64 ln, .slice Af fs.length cf], .agg #[.int .i64 0, .int .i64 p.line, .int .i64 p.col, .int .i64 p.code], .bool false]) (results_cct rfl _ _ _ ⟨k4, 0, none⟩ ⟨k5, 0, none⟩ _ _ _ rfl rfl rfl (load48 (w := wx.drew) q1) (load77 (w := wx.drew) q2)) rfl ?_
          rw [hRR.out]
          exact ⟨hP9.drawn 1, ⟨a2, hR9.drawn 1, HNX.out⟩, _, _, _, _, rfl⟩
end Go.Proofs.YtcpkefjijinhiaaDoor
