/-
  The reference's field of a record that is quoted, as a function of the place. Conditions: the reader lies in memory; its text has at most 65536 bytes; neither the delimiter nor the quotation mark is a line feed.
-/
import Derived.Test.YtcpkefjijinhiaaDoorCQuot
set_option linter.unusedVariables false
namespace Go.Proofs.YtcpkefjijinhiaaDoor
open Go Go.Proofs Go.RowKit Go.Lib

theorem RdrAt.turn10 {w : World} {g a : Nat} {S : ByteArray} (h : RdrAt w g S a) (ha : a < S.size) (he : (S[a]'ha).toNat = 10) {p q r : Int} (hp : p = (lineOf (lst S) a : Int) + 1) (hq : q = (a : Int) + 1) (hr : r = (a : Int) + 1) :
    RdrAt (((w.setCell ⟨g, 2, none⟩ (.int .i64 p)).setCell ⟨g, 3, none⟩ (.int .i64 q)).setCell ⟨g, 1, none⟩ (.int .i64 r)) g S (a + 1) := by
  subst hp hq hr
  have ha' : a < (lst S).length := by rw [← Lib.size_eq]; exact ha
  have hx : (lst S)[a] = 10 := UInt8.toNat_inj.1 he
  unfold RdrAt
  rw [lineOf_step _ _ ha', begOf_step _ _ ha', if_pos hx, if_pos hx]
  have h1 := heap_setCell_same w g 2 _ _ (.int .i64 ((lineOf (lst S) a : Int) + 1)) h.cells
  have h2 := heap_setCell_same _ g 3 _ _ (.int .i64 ((a : Int) + 1)) h1
  have h3 := heap_setCell_same _ g 1 _ _ (.int .i64 ((a : Int) + 1)) h2
  have := lineOf_le (lst S) a
  exact ⟨by rw [h3]; rfl, ha, Nat.le_refl _, by omega, h.small⟩
theorem RdrAt.below {w w' : World} {g a F : Nat} {S : ByteArray} (h : RdrAt w g S a) (hb : Below F w w') (hg : g < F) : RdrAt w' g S a := ReaderAt.rolled h (hb.block g hg)
theorem FLoc.mono {w : World} {F F' g k0 k1 k2 k3 : Nat} {D Q : UInt8} {t : ByteArray} {c : Int} {q : Bool} (h : FLoc w F g k0 k1 k2 k3 D Q t c q) (hF : F ≤ F') : FLoc w F' g k0 k1 k2 k3 D Q t c q :=
  ⟨h.b0, h.b1, h.b2, h.b3, by have := h.lt; omega⟩
/-- The block of the problem that is made ahead of the text. -/
def ProbAt (w : World) (k : Nat) (l c : Int) : Prop := w.heap[k]? = some (.cells #[.int .i64 0, .int .i64 l, .int .i64 c, .int .i64 8] 77 (0, 0))

set_option maxHeartbeats 4000000 in
set_option maxRecDepth 100000 in
theorem rfield_quot (g a : Nat) (S : ByteArray) (D Q : UInt8) (w : World) (h : RdrAt w g S a) (hD : D.toNat ≠ 10) (hQ : Q.toNat ≠ 10) (hlt : a < S.size) (hx : (S[a]'hlt).toNat = Q.toNat) :
    Calls Tryd.prog 60 #[.pointer (some ⟨g, 0, none⟩), .agg #[.int .u8 D.toNat, .int .u8 Q.toNat]] w (FieldOut g S w (quotP (lst S) D Q a)) := by
  have cC := fun w' (h' : RdrAt w' g S a) => column_any g a _ _ S w' h'
  have CC := hid cC
  have H := hid h
  have hle := h.le
  have hsmall := h.small
  clear h cC
  go_enter Tryd.func60, Tryd.ntmps60
  go_wp2_with fail
  refine (CC.out _ (((H.out.alloc _).alloc _).alloc _)).mono ?_
  rintro e w1 ⟨rfl, q, rfl⟩
  go_wp2
  obtain ⟨w4, hw4⟩ : ∃ w4, w4 = ((((w.alloc (.cells #[.int .u8 D.toNat, .int .u8 Q.toNat] 23)).alloc (.cells #[.string ⟨#[]⟩, .int .i64 0, .bool false] 50)).alloc (.cells #[.int .i64 0, .int .i64 0, .int .i64 0, .int .i64 0] 77)).drewN q).alloc (.cells #[.string ⟨#[]⟩, .int .i64 ((a : Int) - (begOf (lst S) a : Int) + 1), .bool false] 50) := ⟨_, rfl⟩
  rw [← hw4]
  obtain ⟨hR, hP, hL, hsz, hgl⟩ := floc_new w g a S D Q q _ H.out w4 hw4
  have HP := hid hP
  clear hw4 hP CC H
  have hH : w.heap.size < w.heap.size + 1 + 1 + 1 + 1 := by omega
  generalize w.heap.size + 1 + 1 + 1 + 1 = F at hL hsz hH
  generalize w.heap.size + 1 + 1 + 1 = k3 at hL ⊢
  generalize w.heap.size + 1 + 1 = k2 at hL ⊢
  generalize w.heap.size + 1 = k1 at hL ⊢
  have hge : w.heap.size ≤ w.heap.size := Nat.le_refl _
  generalize hk0 : w.heap.size = k0 at hL hge ⊢
  have hge' : w.heap.size ≤ k0 := by omega
  have hkF : k0 < F := by omega
  have hFs : F ≤ w4.heap.size := by omega
  clear hge hk0 hgl hH hsz
  have hl := hL.lt
  have HR := hid hR
  have HL := hid hL
  have hc0 := ReaderAt.c0 hR
  have hc1 := ReaderAt.c1 hR
  have hd1 := cell_at hL.b0 1
  simp only [List.getElem?_toArray, List.getElem?_cons_zero, List.getElem?_cons_succ] at hd1
  have HLT := hid hl
  clear hR hL hl
  have hltz : (a : Int) < (S.size : Int) := by omega
  have hxz : ((Q.toNat : Int) == (Q.toNat : Int)) = true := by simp
  go_quiet (fail)
  have hR := HR.out.drawn nq
  have hP := HP.out.drawn nq
  have hL := HL.out.played (Played.drawn (Played.refl F g w4) nq) (Nat.le_refl _)
  have hFs5 : F ≤ (w4.drewN nq).heap.size := by rw [(Rolled.drawn 0 w4 nq).size]; exact hFs
  clear HR HP HL hc0 hc1 hd1 hFs hltz hxz
  generalize w4.drewN nq = w5 at hR hP hL hFs5 ⊢
  obtain ⟨_, _, ⟨n0, n1, n2, n3, n4, n5⟩⟩ := hL.facts
  have HR := hid hR
  have HP := hid hP
  have HL := hid hL
  clear hR hP hL n0 n1 n3 n4
  go_wp2
  have hl := HLT.out
  have hR6 := HR.out.own (show g < k3 by omega) (j := 2) (.bool true)
  have hP6 := HP.out.own (show w.heap.size ≤ k3 by omega) (j := 2) (.bool true)
  have hL6 := HL.out.mark true
  have hFs6 : F ≤ (w5.setCell ⟨k3, 2, none⟩ (.bool true)).heap.size := by rw [(Rolled.set k3 2 w5 (.bool true)).size]; exact hFs5
  clear HR HP HL n2 n5 hFs5
  generalize w5.setCell ⟨k3, 2, none⟩ (.bool true) = w6 at hR6 hP6 hL6 hFs6 ⊢
  obtain ⟨_, _, ⟨_, n1, _, _, _, _⟩⟩ := hL6.facts
  have hc1 := ReaderAt.c1 hR6
  have hc2 := ReaderAt.c2 hR6
  have hf1 := ReaderAt.free hR6 1
  have ne1 : w6.heap.size ≠ g := by omega
  have ne3 : w6.heap.size ≠ k3 := by omega
  have ne1' := ne1.symm
  have ne3' := ne3.symm
  have e1 : IntKind.i64.wrap ((a : Int) + 1) = (a : Int) + 1 := IntWalk.i64_in _ (by omega)
  have HR := hid hR6
  have HP := hid hP6
  have HL := hid hL6
  clear hR6 hP6 hL6 hl
  go_cut [8] (fun v wx => v = .pointer (some ⟨w6.heap.size, 0, none⟩) ∧ wx = (w6.alloc (.cells #[.int .i64 0, .int .i64 (lineOf (lst S) a : Int), .int .i64 ((a : Int) - (begOf (lst S) a : Int) + 1), .int .i64 8] 77)).drew)
  case first =>
    go_region_held3 (fun w' => w'.cell? ⟨g, 2, none⟩ = some (.int .i64 (lineOf (lst S) a : Int)) ∧ w'.cell? ⟨k3, 1, none⟩ = some (.int .i64 ((a : Int) - (begOf (lst S) a : Int) + 1))) (go_keep) (fail)
    all_goals
      go_wp2_with fail
      go_meet
      exact ⟨rfl, rfl⟩
  case rest =>
    obtain ⟨rfl, rfl⟩ := hcut
    have hR := (HR.out.alloc (.cells #[.int .i64 0, .int .i64 (lineOf (lst S) a : Int), .int .i64 ((a : Int) - (begOf (lst S) a : Int) + 1), .int .i64 8] 77)).drawn 1
    have hP := (HP.out.alloc (.cells #[.int .i64 0, .int .i64 (lineOf (lst S) a : Int), .int .i64 ((a : Int) - (begOf (lst S) a : Int) + 1), .int .i64 8] 77) (HP.out.size)).drawn 1
    have hL := (HL.out.played (Played.alloc (Played.refl F g w6) (.cells #[.int .i64 0, .int .i64 (lineOf (lst S) a : Int), .int .i64 ((a : Int) - (begOf (lst S) a : Int) + 1), .int .i64 8] 77) hFs6) (Nat.le_refl _)).played (Played.drawn (Played.refl F g _) 1) (Nat.le_refl _)
    have hB : ProbAt ((w6.alloc (.cells #[.int .i64 0, .int .i64 (lineOf (lst S) a : Int), .int .i64 ((a : Int) - (begOf (lst S) a : Int) + 1), .int .i64 8] 77)).drewN 1) w6.heap.size (lineOf (lst S) a : Int) ((a : Int) - (begOf (lst S) a : Int) + 1) := by
      unfold ProbAt
      rw [drewN_heap]
      exact heap_alloc_new w6 _
    have hs7 : ((w6.alloc (.cells #[.int .i64 0, .int .i64 (lineOf (lst S) a : Int), .int .i64 ((a : Int) - (begOf (lst S) a : Int) + 1), .int .i64 8] 77)).drewN 1).heap.size = w6.heap.size + 1 := by rw [(Rolled.drawn 0 _ 1).size]; simp
    change RdrAt (World.drew _) _ _ _ at hR
    change Played _ _ _ (World.drew _) at hP
    change FLoc (World.drew _) _ _ _ _ _ _ _ _ _ _ _ at hL
    change ProbAt (World.drew _) _ _ _ at hB
    change (World.drew _).heap.size = _ at hs7
    generalize World.drew (w6.alloc (.cells #[.int .i64 0, .int .i64 (lineOf (lst S) a : Int), .int .i64 ((a : Int) - (begOf (lst S) a : Int) + 1), .int .i64 8] 77)) = w7 at hR hP hL hB hs7 ⊢
    clear HR HP HL n1 hc1 hc2 hf1 ne1 ne3 ne1' ne3'
    generalize w6.heap.size = k8 at hB hs7 hFs6 ⊢
    have hs7' : k8 + 1 ≤ w7.heap.size := by omega
    clear hs7
    have hc1 := ReaderAt.c1 hR
    have hf1 := ReaderAt.free hR 1
    have HR := hid (hR.step hlt (by omega))
    have HP := hid (hP.rolled (Rolled.set g 1 w7 (.int .i64 ((a : Int) + 1))))
    have HL := hid ((hL.mono (show F ≤ k8 by omega)).played ((Played.refl k8 g w7).rolled (Rolled.set g 1 w7 (.int .i64 ((a : Int) + 1)))) (Nat.le_refl _))
    have HB : Hid (ProbAt (w7.setCell ⟨g, 1, none⟩ (.int .i64 ((a : Int) + 1))) k8 (lineOf (lst S) a : Int) ((a : Int) - (begOf (lst S) a : Int) + 1)) := hid (((Rolled.set g 1 w7 (.int .i64 ((a : Int) + 1))).block k8 (by have := HLT.out; omega)).trans hB)
    have hs8 : k8 + 1 ≤ (w7.setCell ⟨g, 1, none⟩ (.int .i64 ((a : Int) + 1))).heap.size := by rw [(Rolled.set g 1 w7 _).size]; exact hs7'
    clear hR hP hL hB hs7'
    go_wp2
    clear hc1 hf1
    generalize w7.setCell ⟨g, 1, none⟩ (.int .i64 ((a : Int) + 1)) = w8 at HR HP HL HB hs8 ⊢
    obtain ⟨i5, hi5, hz5, hsi5, hby5⟩ := info_parts infoByte
    have hLT8 : g < k0 ∧ k0 < k1 ∧ k1 < k2 ∧ k2 < k3 ∧ k3 < k8 := by have := HLT.out; omega
    have HLT := hid hLT8
    clear hLT8 hFs6 hkF e1
    go_loopg [6, 9] (S.size + 1) (fun gk s6 bv wx => s6 = .bool false ∧ ∃ (a' : Nat) (bs : Str), RdrAt wx g S a' ∧ a + 1 ≤ a' ∧ Hid (QInv (lst S) Q (a + 1) a' bs) ∧ wx.ownsRow (k8 + 1) 5 1 bv bs.length (byteCells bs) ∧ bs.length ≤ a' ∧ Played (k8 + 1) g w8 wx ∧ S.size - a' < gk)
    case atStart => exact ⟨rfl, a + 1, [], HR.out, Nat.le_refl _, hid (QInv.start _ _ _), World.ownsRow_nil _ _ _ _, Nat.zero_le _, Played.refl _ _ _, by omega⟩
    case round =>
      obtain ⟨rfl, a', bs, hR, haa, hI, hrow, hbl, hPx, hgk⟩ := hrel
      obtain ⟨Ab, cb, rfl⟩ := row_slice hrow
      obtain ⟨g', rfl⟩ : ∃ g', gk = g' + 1 := ⟨gk - 1, by omega⟩
      have hle' := hR.le
      have hP : Played w.heap.size g w wr := HP.out.trans hPx (by have := HLT.out; omega)
      have hL := HL.out.played hPx (by omega)
      have hB : ProbAt wr k8 _ _ := (hPx.block k8 (by omega) (by have := HLT.out; omega)).trans HB.out
      have hsw : k8 + 1 ≤ wr.heap.size := Nat.le_trans hs8 hPx.size
      have hc0 := ReaderAt.c0 hR
      have hc1 := ReaderAt.c1 hR
      have hd1 := cell_at hL.b0 1
      simp only [List.getElem?_toArray, List.getElem?_cons_zero, List.getElem?_cons_succ] at hd1
      have e1 : IntKind.i64.wrap ((a' : Int) + 1) = (a' : Int) + 1 := IntWalk.i64_in _ (by omega)
      have HR2 := hid hR
      have HP2 := hid hP
      have HL2 := hid hL
      have HB2 := hid hB
      have HPX := hid hPx
      have HROW := hid hrow
      clear hR hP hL hB hPx hrow HR HP
      by_cases hend : a' = S.size
      · have hRES : quotP (lst S) D Q a = .bad ⟨lineOf (lst S) a, colP (lst S) a, 8⟩ (lst S).length := by
          unfold quotP
          rw [hI.out.end_ (by rw [← Lib.size_eq]; omega)]
        have HRES := hid hRES
        have heq : ((a' : Int) == (S.size : Int)) = true := by simp; omega
        clear hRES
        go_wp2_with fail
        go_quiet (fail)
        have hR := HR2.out.drawn nq
        have hP := HP2.out.drawn nq
        have hL := HL2.out.played (Played.drawn (Played.refl k8 g wr) nq) (Nat.le_refl _)
        have hB : ProbAt (wr.drewN nq) k8 _ _ := (drewN_heap wr nq k8).trans HB2.out
        clear HR2 HP2 HL2 HB2 HPX HROW hc0 hc1 hd1
        generalize wr.drewN nq = w9 at hR hP hL hB ⊢
        obtain ⟨⟨p0, p1, p2, p3, p4, p5⟩, ⟨m0, m1, m2, m3, m4, m5, m6, m7⟩, ⟨n0, n1, n2, _, _, _⟩⟩ := hL.facts
        have b0 : w9.cell? ⟨k8, 0, none⟩ = _ := cell_at hB 0
        have b1 : w9.cell? ⟨k8, 1, none⟩ = _ := cell_at hB 1
        have b2 : w9.cell? ⟨k8, 2, none⟩ = _ := cell_at hB 2
        have b3 : w9.cell? ⟨k8, 3, none⟩ = _ := cell_at hB 3
        simp only [List.getElem?_toArray, List.getElem?_cons_zero, List.getElem?_cons_succ] at b0 b1 b2 b3
        have HR2 := hid hR
        have HP2 := hid hP
        have HL2 := hid hL
        clear hR hP hL hB
        have hne : k1 ≠ k2 ∧ k1 ≠ k3 ∧ k2 ≠ k3 ∧ k1 ≠ k8 ∧ k2 ≠ k8 ∧ k3 ≠ k8 := by have := HLT.out; omega
        obtain ⟨ne12, ne13, ne23, ne18, ne28, ne38⟩ := hne
        have ne21 := ne12.symm
        have ne31 := ne13.symm
        have ne32 := ne23.symm
        have ne81 := ne18.symm
        have ne82 := ne28.symm
        have ne83 := ne38.symm
        go_wp2
        go_region_held3 (fun w' => w'.cell? ⟨k3, 0, none⟩ = some (.string ⟨#[]⟩) ∧ w'.cell? ⟨k3, 1, none⟩ = some (.int .i64 ((a : Int) - (begOf (lst S) a : Int) + 1)) ∧ w'.cell? ⟨k3, 2, none⟩ = some (.bool true) ∧ w'.cell? ⟨k8, 0, none⟩ = some (.int .i64 0) ∧ w'.cell? ⟨k8, 1, none⟩ = some (.int .i64 (lineOf (lst S) a : Int)) ∧ w'.cell? ⟨k8, 2, none⟩ = some (.int .i64 ((a : Int) - (begOf (lst S) a : Int) + 1)) ∧ w'.cell? ⟨k8, 3, none⟩ = some (.int .i64 8)) (go_keep) (fail)
        all_goals go_wp2
        all_goals
          obtain ⟨wx, hwx⟩ : ∃ wx, wx = ((((((w9.setCell ⟨k1, 0, none⟩ (.string ⟨#[]⟩)).setCell ⟨k1, 1, none⟩ (.int .i64 ((a : Int) - (begOf (lst S) a : Int) + 1))).setCell ⟨k1, 2, none⟩ (.bool true)).setCell ⟨k2, 0, none⟩ (.int .i64 0)).setCell ⟨k2, 1, none⟩ (.int .i64 (lineOf (lst S) a : Int))).setCell ⟨k2, 2, none⟩ (.int .i64 ((a : Int) - (begOf (lst S) a : Int) + 1))).setCell ⟨k2, 3, none⟩ (.int .i64 8) := ⟨_, rfl⟩
          rw [← hwx]
          obtain ⟨q1, q2, hR9, hP9⟩ := out_world HL2.out HR2.out HP2.out hge' _ _ _ _ _ _ _ hwx
          refine bodyPost_ret (v := .tuple #[.agg #[.string ⟨#[]⟩, .int .i64 ((a : Int) - (begOf (lst S) a : Int) + 1), .bool true], .agg #[.int .i64 0, .int .i64 (lineOf (lst S) a : Int), .int .i64 ((a : Int) - (begOf (lst S) a : Int) + 1), .int .i64 8], .bool false]) (results_cct rfl _ _ _ ⟨k1, 0, none⟩ ⟨k2, 0, none⟩ _ _ _ rfl rfl rfl (load50 (w := wx.drew) q1) (load77 (w := wx.drew) q2)) rfl ?_
          refine ⟨hP9.drawn 1, ?_⟩
          rw [HRES.out]
          refine ⟨⟨_, _, _, rfl⟩, a', hR9.drawn 1, ?_⟩
          rw [hend, Lib.size_eq]
          unfold nxt
          rw [List.drop_of_length_le (Nat.le_refl _)]
          simp [eolN]
      · have hlt' : a' < S.size := by omega
        have hltz : (a' : Int) < (S.size : Int) := by omega
        have heq : ((a' : Int) == (S.size : Int)) = false := by simp; omega
        have hlL : a' < (lst S).length := by rw [← Lib.size_eq]; exact hlt'
        obtain ⟨x, hxx⟩ : ∃ x, (S[a']'hlt').toNat = x := ⟨_, rfl⟩
        have hB2' := HB2.out
        clear HB2 hB2' HB
        by_cases hxQ : x = Q.toNat
        · subst hxQ
          have hcQ : (lst S)[a'] = Q := UInt8.toNat_inj.1 hxx
          have hqz : ((Q.toNat : Int) == (Q.toNat : Int)) = true := by simp
          have hq10 : ((Q.toNat : Int) == 10) = false := by simp; omega
          go_wp2_with fail
          go_quiet (fail)
          have hR := HR2.out.drawn nq
          have hL := HL2.out.played (Played.drawn (Played.refl k8 g wr) nq) (Nat.le_refl _)
          have hP := HP2.out.drawn nq
          have hPx := HPX.out.drawn nq
          have hrow := row_drawn HROW.out nq
          have hsw2 : k8 + 1 ≤ (wr.drewN nq).heap.size := by rw [(Rolled.drawn 0 wr nq).size]; exact hsw
          clear HR2 HP2 HL2 HPX HROW hc0 hc1 hd1 hsw
          generalize wr.drewN nq = w9a at hR hP hL hPx hrow hsw2 ⊢
          have hsw := hsw2
          clear hsw2
          have hc0 := ReaderAt.c0 hR
          have hc1 := ReaderAt.c1 hR
          have hf1 := ReaderAt.free hR 1
          have hd1 := cell_at hL.b0 1
          simp only [List.getElem?_toArray, List.getElem?_cons_zero, List.getElem?_cons_succ] at hd1
          have HR2 := hid hR
          have HP2 := hid hP
          have HL2 := hid hL
          have HPX := hid hPx
          have HROW := hid hrow
          clear hR hP hL hPx hrow
          go_wp2
          go_quiet (fail)
          have hR := HR2.out.drawn nq
          have hL := HL2.out.played (Played.drawn (Played.refl k8 g w9a) nq) (Nat.le_refl _)
          have hP := HP2.out.drawn nq
          have hPx := HPX.out.drawn nq
          have hrow := row_drawn HROW.out nq
          have hsw2 : k8 + 1 ≤ (w9a.drewN nq).heap.size := by rw [(Rolled.drawn 0 w9a nq).size]; exact hsw
          clear HR2 HP2 HL2 HPX HROW hc0 hc1 hf1 hd1 hsw
          generalize w9a.drewN nq = w9 at hR hP hL hPx hrow hsw2 ⊢
          have hsw := hsw2
          clear hsw2
          have hc0 := ReaderAt.c0 hR
          have hc1 := ReaderAt.c1 hR
          have hf1 := ReaderAt.free hR 1
          have hd1 := cell_at hL.b0 1
          simp only [List.getElem?_toArray, List.getElem?_cons_zero, List.getElem?_cons_succ] at hd1
          have HR2 := hid hR
          have HP2 := hid hP
          have HL2 := hid hL
          have HPX := hid hPx
          have HROW := hid hrow
          clear hR hP hL hPx hrow
          go_wp2
          have hcase : (a' + 1 = S.size ∧ Hid ((lst S).drop (a' + 1) = [])) ∨ ∃ (h1 : a' + 1 < S.size) (y : Nat), (S[a' + 1]'h1).toNat = y ∧ (y = Q.toNat ∨ y ≠ Q.toNat) := by
            by_cases h1 : a' + 1 < S.size
            · exact .inr ⟨h1, _, rfl, Decidable.em _⟩
            · exact .inl ⟨by omega, hid (List.drop_of_length_le (by rw [← Lib.size_eq]; omega))⟩
          go_cut [6, 9, 10, 111] from 54 to 140 (fun v6 v9 v10 v wx => v6 = .bool false ∧ v9 = .slice Ab bs.length cb ∧ v10 = .int .u8 (Q.toNat : Int) ∧ ∃ b : Bool, v = .bool b ∧ (∃ n, wx = w9.drewN n) ∧ (b = true → ∃ h1 : a' + 1 < S.size, (S[a' + 1]'h1).toNat = Q.toNat) ∧ (b = false → Hid (((lst S).drop (a' + 1)).head? ≠ some Q)))
          case first =>
            rcases hcase with ⟨ha1, hnil⟩ | ⟨h1, y, hy, hyQ⟩
            · have hz : ¬ (a' : Int) + 1 < (S.size : Int) := by omega
              have hzb : decide ((a' : Int) + 1 < (S.size : Int)) = false := decide_eq_false hz
              go_quiet (fail)
              go_wp2
              go_meet
              exact ⟨rfl, rfl, rfl, false, rfl, ⟨_, rfl⟩, fun h => by simp at h, fun _ => hid (by rw [hnil.out]; simp)⟩
            · have hz : (a' : Int) + 1 < (S.size : Int) := by omega
              have hnn : (0 : Int) ≤ (a' : Int) + 1 := by omega
              have htn : ((a' : Int) + 1).toNat = a' + 1 := by omega
              rcases hyQ with rfl | hyQ
              · go_quiet (fail)
                go_wp2
                go_meet
                exact ⟨rfl, rfl, rfl, true, rfl, ⟨_, rfl⟩, fun _ => ⟨h1, hy⟩, fun h => by simp at h⟩
              · have hyb : ((y : Int) == (Q.toNat : Int)) = false := by simp; omega
                have hhd : Hid (((lst S).drop (a' + 1)).head? ≠ some Q) := by
                  rw [drop_at S (a' + 1) h1]
                  simp only [List.head?_cons, ne_eq, Option.some.injEq]
                  exact hid (fun e => hyQ (by rw [← hy, e]))
                go_quiet (fail)
                go_wp2
                go_meet
                exact ⟨rfl, rfl, rfl, false, rfl, ⟨_, rfl⟩, fun h => by simp at h, fun _ => hhd⟩
          case rest =>
            obtain ⟨rfl, rfl, rfl, b, rfl, ⟨n6, rfl⟩, hb1, hb0⟩ := hcut
            clear hf1 hcase
            have hR := HR2.out.drawn n6
            have hL := HL2.out.played (Played.drawn (Played.refl k8 g w9) n6) (Nat.le_refl _)
            have hP := HP2.out.drawn n6
            have hPx := HPX.out.drawn n6
            have hrow := row_drawn HROW.out n6
            have hsw2 : k8 + 1 ≤ (w9.drewN n6).heap.size := by rw [(Rolled.drawn 0 w9 n6).size]; exact hsw
            clear HR2 HP2 HL2 HPX HROW hc0 hc1 hd1 hsw
            generalize w9.drewN n6 = w10 at hR hP hL hPx hrow hsw2 ⊢
            have hsw := hsw2
            clear hsw2
            have hc0 := ReaderAt.c0 hR
            have hc1 := ReaderAt.c1 hR
            have hf1 := ReaderAt.free hR 1
            have hd1 := cell_at hL.b0 1
            simp only [List.getElem?_toArray, List.getElem?_cons_zero, List.getElem?_cons_succ] at hd1
            have HR2 := hid hR
            have HP2 := hid hP
            have HL2 := hid hL
            have HPX := hid hPx
            have HROW := hid hrow
            clear hR hP hL hPx hrow
            cases b with
            | true =>
              obtain ⟨h1, hy⟩ := hb1 rfl
              have hlL1 : a' + 1 < (lst S).length := by rw [← Lib.size_eq]; exact h1
              have hcQ1 : (lst S)[a' + 1] = Q := UInt8.toNat_inj.1 hy
              have HI2 := hid (hI.out.two haa hlL1 hcQ hcQ1)
              have e2 : IntKind.i64.wrap ((a' : Int) + 1 + 1) = (a' : Int) + 1 + 1 := IntWalk.i64_in _ (by omega)
              clear hb0 hb1
              go_upto_region 14 with fail
              have hR3 := HR2.out.step hlt' (by omega)
              have hrs := Rolled.set g 1 w10 (.int .i64 ((a' : Int) + 1))
              have hP3 := HP2.out.rolled hrs
              have hPx3 := HPX.out.rolled hrs
              have hL3 := HL2.out.played ((Played.refl k8 g w10).rolled hrs) (Nat.le_refl _)
              have hrow3 := hrs.row HROW.out (fun e => by have := (World.ownsRow.lt HROW.out g e).1; have := HLT.out; omega)
              have hsw3 : k8 + 1 ≤ (w10.setCell ⟨g, 1, none⟩ (.int .i64 ((a' : Int) + 1))).heap.size := by rw [hrs.size]; exact hsw
              clear hrs HR2 HP2 HL2 HPX HROW hc0 hc1 hf1 hd1 hsw
              generalize w10.setCell ⟨g, 1, none⟩ (.int .i64 ((a' : Int) + 1)) = w11 at hR3 hP3 hPx3 hL3 hrow3 hsw3 ⊢
              have hsw := hsw3
              clear hsw3
              have HR2 := hid hR3
              have HP2 := hid hP3
              have HL2 := hid hL3
              have HPX := hid hPx3
              have HROW := hid hrow3
              clear hR3 hP3 hL3 hPx3 hrow3
              have HC3 : Hid (bs.length + 1 ≤ maxLen) := by unfold maxLen; exact hid (by omega)
              have HC4 : Hid ((bs.length + 1) * 1 ≤ 140737488355328) := hid (by omega)
              have HC5 : Hid (∀ o : Obj, k8 + 1 ≤ (w11.alloc o).heap.size) := hid (fun o => by simp; omega)
              go_wp2_with (at_builtin; refine wpList_append_own _ rfl _ _ 61 rfl (k8 + 1) 5 i5 (.int .u8 0) 1 1 Tryd.underlying61 hi5 hz5 hsi5 hby5 rfl (by decide) (.slice Ab bs.length cb) bs.length (byteCells bs) rfl (World.ownsRow.alloc HROW.out _) ⟨w11.heap.size, 0, none⟩ 1 1 [.int .u8 (Q.toNat : Int)] rfl rfl (one_new _ _ _) (one_one _ _) HC3.out HC4.out (HC5.out _) ?_)
              intro v' wq hown' hgrow _
              have hg' := grownBy_of_alloc hgrow
              have hbq : Below (k8 + 1) w11 wq := (Below.refl (k8 + 1) w11).grown hg' hsw (fun k hk => (World.ownsRow.lt HROW.out k hk).1)
              have hgl8 : g < k8 + 1 := by have := HLT.out; omega
              have hRq := HR2.out.below hbq hgl8
              have hPq := HPX.out.below hbq
              have hrq : wq.ownsRow (k8 + 1) 5 1 v' (bs ++ [Q]).length (byteCells (bs ++ [Q])) := by rw [byteCells_app, List.length_append]; exact hown'
              have hcq := ReaderAt.c1 hRq
              rw [show (((a' + 1 : Nat)) : Int) = (a' : Int) + 1 by omega] at hcq
              have hfq := ReaderAt.free hRq 1
              have hstep := hRq.step h1 (by omega)
              rw [show (((a' + 1 : Nat)) : Int) + 1 = (a' : Int) + 1 + 1 by omega] at hstep
              have hrs := Rolled.set g 1 wq (.int .i64 ((a' : Int) + 1 + 1))
              have HRn := hid hstep
              have HPn := hid (hPq.rolled hrs)
              have HWn := hid (hrs.row hrq (fun e => by have := (World.ownsRow.lt hrq g e).1; have := HLT.out; omega))
              clear hrq hown' hgrow hg' hbq hRq hPq hstep hrs
              go_wp2
              go_roundg g'
              case measure => omega
              case rel => exact ⟨rfl, a' + 1 + 1, bs ++ [Q], HRn.out, by omega, HI2, HWn.out, by simp; omega, HPn.out, by omega⟩
            | false =>
              have hqe := hI.out.done hlL hcQ (hb0 rfl).out
              have hQS := quotP_some (D := D) (a := a) (x := a' + 1) hqe (by omega)
              have HQS := hid hQS
              clear hqe hQS hb0 hb1
              go_upto_region 18 with fail
              have hR3 := HR2.out.step hlt' (by omega)
              have hrs := Rolled.set g 1 w10 (.int .i64 ((a' : Int) + 1))
              have hP3 := HP2.out.rolled hrs
              have hPx3 := HPX.out.rolled hrs
              have hL3 := HL2.out.played ((Played.refl k8 g w10).rolled hrs) (Nat.le_refl _)
              have hrow3 := hrs.row HROW.out (fun e => by have := (World.ownsRow.lt HROW.out g e).1; have := HLT.out; omega)
              have hsw3 : k8 + 1 ≤ (w10.setCell ⟨g, 1, none⟩ (.int .i64 ((a' : Int) + 1))).heap.size := by rw [hrs.size]; exact hsw
              clear hrs HR2 HP2 HL2 HPX HROW hc0 hc1 hf1 hd1 hsw
              generalize w10.setCell ⟨g, 1, none⟩ (.int .i64 ((a' : Int) + 1)) = w11 at hR3 hP3 hPx3 hL3 hrow3 hsw3 ⊢
              have hsw := hsw3
              clear hsw3
              have HR2 := hid hR3
              have HP2 := hid hP3
              have HL2 := hid hL3
              have HPX := hid hPx3
              have HROW := hid hrow3
              clear hR3 hP3 hL3 hPx3 hrow3
              have hcv := row_string (P := Tryd.prog) HROW.out 61 5 9 Tryd.underlying61 Tryd.underlying5 Tryd.underlying9
              obtain ⟨_, _, ⟨n0, n1, n2, n3, n4, n5⟩⟩ := HL2.out.facts
              have hk3 : g < k3 ∧ w.heap.size ≤ k3 := by have := HLT.out; omega
              clear n1 n2 n4 n5
              go_wp2
              have hR3 := HR2.out.own hk3.1 (j := 0) (.string ⟨bs.toArray⟩)
              have hP3 := HP2.out.own hk3.2 (j := 0) (.string ⟨bs.toArray⟩)
              have hL3 := HL2.out.text ⟨bs.toArray⟩
              clear n0 n3 hcv HR2 HP2 HL2 HPX HROW hsw
              generalize w11.setCell ⟨k3, 0, none⟩ (.string ⟨bs.toArray⟩) = w12 at hR3 hP3 hL3 ⊢
              have cE := fun n => ended_any g (a' + 1) _ _ S (w12.drewN n) (hR3.drawn n)
              have cC := fun w' (h' : RdrAt w' g S (a' + 1)) => column_any g (a' + 1) _ _ S w' h'
              have hc0 := ReaderAt.c0 hR3
              have hc1 := ReaderAt.c1 hR3
              rw [show (((a' + 1 : Nat)) : Int) = (a' : Int) + 1 by omega] at hc1
              have hd0 := cell_at hL3.b0 0
              simp only [List.getElem?_toArray, List.getElem?_cons_zero] at hd0
              have HR2 := hid hR3
              have HP2 := hid hP3
              have HL2 := hid hL3
              have CC := hid cC
              clear hR3 hP3 hL3 cC
              obtain ⟨bl, hbl⟩ : ∃ bl, endL ((lst S).drop (a' + 1)) = bl := ⟨_, rfl⟩
              have cE' : ∀ n, Calls Tryd.prog 44 #[.pointer (some ⟨g, 0, none⟩)] (w12.drewN n) fun e w' => e = .returned (.bool bl) ∧ ∃ q, w' = (w12.drewN n).drewN q := by
                intro n
                rw [← hbl]
                exact cE n
              clear cE
              have hbd : bl = true ∨ (bl = false ∧ ∃ (h1 : a' + 1 < S.size) (y : Nat), (S[a' + 1]'h1).toNat = y ∧ (y = D.toNat ∨ y ≠ D.toNat)) := by
                cases bl with
                | true => exact .inl rfl
                | false =>
                  have := end_lt _ _ hbl
                  exact .inr ⟨rfl, by rw [Lib.size_eq]; exact this, _, rfl, Decidable.em _⟩
              have HBL := hid hbl
              clear hbl hcQ hxx
              rcases hbd with rfl | ⟨rfl, h1, y, hy, hyD⟩
              · have HRES : Hid (quotP (lst S) D Q a = .ok ⟨bs, colP (lst S) a, true⟩ (a' + 1)) := hid (by rw [HQS.out, if_pos (.inl HBL.out)])
                clear HQS HBL
                go_quiet ((go_at_call 44; with_reducible refine Calls.quiet_of (cE' _)))
                have hR5 := HR2.out.drawn nq
                have hP5 := HP2.out.drawn nq
                have hL5 := HL2.out.played (Played.drawn (Played.refl k8 g w12) nq) (Nat.le_refl _)
                clear HR2 HP2 HL2 cE' hc0 hc1 hd0
                generalize w12.drewN nq = w13 at hR5 hP5 hL5 ⊢
                obtain ⟨⟨p0, p1, p2, p3, p4, p5⟩, ⟨m0, m1, m2, m3, m4, m5, m6, m7⟩, ⟨n0, n1, n2, _, _, _⟩⟩ := hL5.facts
                have HR5 := hid hR5
                have HP5 := hid hP5
                have HL5 := hid hL5
                clear hR5 hP5 hL5
                have hne : k1 ≠ k2 ∧ k1 ≠ g ∧ k2 ≠ g ∧ k1 ≠ k3 ∧ k2 ≠ k3 ∧ k3 ≠ g := by have := HLT.out; omega
                obtain ⟨ne12, ne1g, ne2g, ne13, ne23, ne3g⟩ := hne
                have ne21 := ne12.symm
                have neg1 := ne1g.symm
                have neg2 := ne2g.symm
                have ne31 := ne13.symm
                have ne32 := ne23.symm
                have neg3 := ne3g.symm
                go_wp2
                obtain ⟨wx, hwx⟩ : ∃ wx, wx = ((((((w13.setCell ⟨k1, 0, none⟩ (.string ⟨bs.toArray⟩)).setCell ⟨k1, 1, none⟩ (.int .i64 ((a : Int) - (begOf (lst S) a : Int) + 1))).setCell ⟨k1, 2, none⟩ (.bool true)).setCell ⟨k2, 0, none⟩ (.int .i64 0)).setCell ⟨k2, 1, none⟩ (.int .i64 0)).setCell ⟨k2, 2, none⟩ (.int .i64 0)).setCell ⟨k2, 3, none⟩ (.int .i64 0) := ⟨_, rfl⟩
                rw [← hwx]
                obtain ⟨q1, q2, hR9, hP9⟩ := out_world HL5.out HR5.out HP5.out hge' _ _ _ _ _ _ _ hwx
                refine bodyPost_ret (v := .tuple #[.agg #[(.string ⟨bs.toArray⟩), (.int .i64 ((a : Int) - (begOf (lst S) a : Int) + 1)), (.bool true)], .agg #[(.int .i64 0), (.int .i64 0), (.int .i64 0), (.int .i64 0)], .bool true]) (results_cct rfl _ _ _ ⟨k1, 0, none⟩ ⟨k2, 0, none⟩ _ _ _ rfl rfl rfl (load50 q1) (load77 q2)) rfl ?_
                refine ⟨hP9, ?_⟩
                rw [HRES.out]
                exact ⟨rfl, hR9⟩
              · have hz : (a' : Int) + 1 < (S.size : Int) := by omega
                have hnn : (0 : Int) ≤ (a' : Int) + 1 := by omega
                have htn : ((a' : Int) + 1).toNat = a' + 1 := by omega
                have hhd : ((lst S).drop (a' + 1)).head? = some (S[a' + 1]'h1) := by rw [drop_at S (a' + 1) h1]; rfl
                rcases hyD with rfl | hyD
                · have HRES : Hid (quotP (lst S) D Q a = .ok ⟨bs, colP (lst S) a, true⟩ (a' + 1)) := hid (by rw [HQS.out, if_pos (.inr (by rw [hhd, UInt8.toNat_inj.1 hy]))])
                  have hdn : ((D.toNat : Int) != (D.toNat : Int)) = false := by simp
                  clear HQS HBL hhd
                  go_quiet ((go_at_call 44; with_reducible refine Calls.quiet_of (cE' _)))
                  have hR5 := HR2.out.drawn nq
                  have hP5 := HP2.out.drawn nq
                  have hL5 := HL2.out.played (Played.drawn (Played.refl k8 g w12) nq) (Nat.le_refl _)
                  clear HR2 HP2 HL2 cE' hc0 hc1 hd0
                  generalize w12.drewN nq = w13 at hR5 hP5 hL5 ⊢
                  obtain ⟨⟨p0, p1, p2, p3, p4, p5⟩, ⟨m0, m1, m2, m3, m4, m5, m6, m7⟩, ⟨n0, n1, n2, _, _, _⟩⟩ := hL5.facts
                  have HR5 := hid hR5
                  have HP5 := hid hP5
                  have HL5 := hid hL5
                  clear hR5 hP5 hL5
                  have hne : k1 ≠ k2 ∧ k1 ≠ g ∧ k2 ≠ g ∧ k1 ≠ k3 ∧ k2 ≠ k3 ∧ k3 ≠ g := by have := HLT.out; omega
                  obtain ⟨ne12, ne1g, ne2g, ne13, ne23, ne3g⟩ := hne
                  have ne21 := ne12.symm
                  have neg1 := ne1g.symm
                  have neg2 := ne2g.symm
                  have ne31 := ne13.symm
                  have ne32 := ne23.symm
                  have neg3 := ne3g.symm
                  go_wp2
                  obtain ⟨wx, hwx⟩ : ∃ wx, wx = ((((((w13.setCell ⟨k1, 0, none⟩ (.string ⟨bs.toArray⟩)).setCell ⟨k1, 1, none⟩ (.int .i64 ((a : Int) - (begOf (lst S) a : Int) + 1))).setCell ⟨k1, 2, none⟩ (.bool true)).setCell ⟨k2, 0, none⟩ (.int .i64 0)).setCell ⟨k2, 1, none⟩ (.int .i64 0)).setCell ⟨k2, 2, none⟩ (.int .i64 0)).setCell ⟨k2, 3, none⟩ (.int .i64 0) := ⟨_, rfl⟩
                  rw [← hwx]
                  obtain ⟨q1, q2, hR9, hP9⟩ := out_world HL5.out HR5.out HP5.out hge' _ _ _ _ _ _ _ hwx
                  refine bodyPost_ret (v := .tuple #[.agg #[(.string ⟨bs.toArray⟩), (.int .i64 ((a : Int) - (begOf (lst S) a : Int) + 1)), (.bool true)], .agg #[(.int .i64 0), (.int .i64 0), (.int .i64 0), (.int .i64 0)], .bool true]) (results_cct rfl _ _ _ ⟨k1, 0, none⟩ ⟨k2, 0, none⟩ _ _ _ rfl rfl rfl (load50 q1) (load77 q2)) rfl ?_
                  refine ⟨hP9, ?_⟩
                  rw [HRES.out]
                  exact ⟨rfl, hR9⟩
                · have HRES : Hid (quotP (lst S) D Q a = .bad ⟨lineOf (lst S) (a' + 1), colP (lst S) (a' + 1), 8⟩ (nxt (lst S) (a' + 1))) := by
                    refine hid ?_
                    rw [HQS.out, if_neg]
                    rintro (h | h)
                    · rw [HBL.out] at h; simp at h
                    · rw [hhd] at h
                      injection h with h
                      exact hyD (by rw [← hy, h])
                  have hdn : ((y : Int) != (D.toNat : Int)) = true := by simp; omega
                  clear HQS HBL hhd
                  go_quiet ((go_at_call 44; with_reducible refine Calls.quiet_of (cE' _)))
                  have hR5 := HR2.out.drawn nq
                  have hP5 := HP2.out.drawn nq
                  have hL5 := HL2.out.played (Played.drawn (Played.refl k8 g w12) nq) (Nat.le_refl _)
                  clear HR2 HP2 HL2 cE' hc0 hc1 hd0
                  generalize w12.drewN nq = w13 at hR5 hP5 hL5 ⊢
                  have hc2 := ReaderAt.c2 hR5
                  obtain ⟨⟨p0, p1, p2, p3, p4, p5⟩, ⟨m0, m1, m2, m3, m4, m5, m6, m7⟩, ⟨n0, n1, n2, _, _, _⟩⟩ := hL5.facts
                  have HRd : Hid (RdrAt w13.drew g S (a' + 1)) := hid (hR5.drawn 1)
                  have HR5' := hid hR5
                  have HP5' := hid hP5
                  have HL5' := hid hL5
                  clear hR5 hP5 hL5
                  have hne : k1 ≠ k2 ∧ k1 ≠ g ∧ k2 ≠ g ∧ k1 ≠ k3 ∧ k2 ≠ k3 ∧ k3 ≠ g := by have := HLT.out; omega
                  obtain ⟨ne12, ne1g, ne2g, ne13, ne23, ne3g⟩ := hne
                  have ne21 := ne12.symm
                  have neg1 := ne1g.symm
                  have neg2 := ne2g.symm
                  have ne31 := ne13.symm
                  have ne32 := ne23.symm
                  have neg3 := ne3g.symm
                  go_wp2
                  go_region_held3 (fun w' => w'.cell? ⟨g, 2, none⟩ = some (.int .i64 (lineOf (lst S) (a' + 1) : Int)) ∧ w'.cell? ⟨k3, 0, none⟩ = some (.string ⟨bs.toArray⟩) ∧ w'.cell? ⟨k3, 1, none⟩ = some (.int .i64 ((a : Int) - (begOf (lst S) a : Int) + 1)) ∧ w'.cell? ⟨k3, 2, none⟩ = some (.bool true)) (go_keep)
                    (first | (go_at_call 59; refine (CC.out _ HRd.out).mono ?_; rintro e w' ⟨rfl, q', rfl⟩))
                  all_goals go_wp2
                  all_goals
                    have HR5 := hid (HR5'.out.drawn (1 + q'))
                    have HP5 := hid (HP5'.out.drawn (1 + q'))
                    have HL5 := hid (HL5'.out.played (Played.drawn (Played.refl k8 g w13) (1 + q')) (Nat.le_refl _))
                    obtain ⟨w14, hw14⟩ : ∃ w14, w14 = w13.drewN (1 + q') := ⟨_, rfl⟩
                    rw [← hw14] at HR5 HP5 HL5 ⊢
                    obtain ⟨wx, hwx⟩ : ∃ wx, wx = ((((((w14.setCell ⟨k1, 0, none⟩ (.string ⟨bs.toArray⟩)).setCell ⟨k1, 1, none⟩ (.int .i64 ((a : Int) - (begOf (lst S) a : Int) + 1))).setCell ⟨k1, 2, none⟩ (.bool true)).setCell ⟨k2, 0, none⟩ (.int .i64 0)).setCell ⟨k2, 1, none⟩ (.int .i64 (lineOf (lst S) (a' + 1) : Int))).setCell ⟨k2, 2, none⟩ (.int .i64 ((a' : Int) + 1 - (begOf (lst S) (a' + 1) : Int) + 1))).setCell ⟨k2, 3, none⟩ (.int .i64 8) := ⟨_, rfl⟩
                    rw [← hwx]
                    obtain ⟨q1, q2, hR9, hP9⟩ := out_world HL5.out HR5.out HP5.out hge' _ _ _ _ _ _ _ hwx
                    refine bodyPost_ret (v := .tuple #[.agg #[(.string ⟨bs.toArray⟩), (.int .i64 ((a : Int) - (begOf (lst S) a : Int) + 1)), (.bool true)], .agg #[(.int .i64 0), (.int .i64 (lineOf (lst S) (a' + 1) : Int)), (.int .i64 ((a' : Int) + 1 - (begOf (lst S) (a' + 1) : Int) + 1)), (.int .i64 8)], .bool false]) (results_cct rfl _ _ _ ⟨k1, 0, none⟩ ⟨k2, 0, none⟩ _ _ _ rfl rfl rfl (load50 q1) (load77 q2)) rfl ?_
                    refine ⟨hP9, ?_⟩
                    rw [HRES.out]
                    exact ⟨⟨_, _, _, rfl⟩, a' + 1, hR9, rfl⟩
        · have hcQ : (lst S)[a'] ≠ Q := fun e => hxQ (by rw [← hxx, ← e]; rfl)
          have hqz : ((x : Int) == (Q.toNat : Int)) = false := by simp; omega
          have HI2 := hid (hI.out.other haa hlL hcQ)
          have hbx : byteCells [(lst S)[a']] = [.int .u8 (x : Int)] := by rw [← hxx]; rfl
          go_wp2_with fail
          go_quiet (fail)
          have hR := HR2.out.drawn nq
          have hL := HL2.out.played (Played.drawn (Played.refl k8 g wr) nq) (Nat.le_refl _)
          have hP := HP2.out.drawn nq
          have hPx := HPX.out.drawn nq
          have hrow := row_drawn HROW.out nq
          have hsw2 : k8 + 1 ≤ (wr.drewN nq).heap.size := by rw [(Rolled.drawn 0 wr nq).size]; exact hsw
          clear HR2 HP2 HL2 HPX HROW hc0 hc1 hd1 hsw
          generalize wr.drewN nq = w9a at hR hP hL hPx hrow hsw2 ⊢
          have hsw := hsw2
          clear hsw2
          have hc0 := ReaderAt.c0 hR
          have hc1 := ReaderAt.c1 hR
          have hf1 := ReaderAt.free hR 1
          have hd1 := cell_at hL.b0 1
          simp only [List.getElem?_toArray, List.getElem?_cons_zero, List.getElem?_cons_succ] at hd1
          have HR2 := hid hR
          have HP2 := hid hP
          have HL2 := hid hL
          have HPX := hid hPx
          have HROW := hid hrow
          clear hR hP hL hPx hrow
          go_wp2
          go_quiet (fail)
          have hR := HR2.out.drawn nq
          have hL := HL2.out.played (Played.drawn (Played.refl k8 g w9a) nq) (Nat.le_refl _)
          have hP := HP2.out.drawn nq
          have hPx := HPX.out.drawn nq
          have hrow := row_drawn HROW.out nq
          have hsw2 : k8 + 1 ≤ (w9a.drewN nq).heap.size := by rw [(Rolled.drawn 0 w9a nq).size]; exact hsw
          clear HR2 HP2 HL2 HPX HROW hc0 hc1 hf1 hd1 hsw
          generalize w9a.drewN nq = w9 at hR hP hL hPx hrow hsw2 ⊢
          have hsw := hsw2
          clear hsw2
          have hc0 := ReaderAt.c0 hR
          have hc1 := ReaderAt.c1 hR
          have hf1 := ReaderAt.free hR 1
          have hd1 := cell_at hL.b0 1
          simp only [List.getElem?_toArray, List.getElem?_cons_zero, List.getElem?_cons_succ] at hd1
          have HR2 := hid hR
          have HP2 := hid hP
          have HL2 := hid hL
          have HPX := hid hPx
          have HROW := hid hrow
          clear hR hP hL hPx hrow
          by_cases hx10 : x = 10
          · subst hx10
            have HC3 : Hid (bs.length + 1 ≤ maxLen) := by unfold maxLen; exact hid (by omega)
            have HC4 : Hid ((bs.length + 1) * 1 ≤ 140737488355328) := hid (by omega)
            have HC5 : Hid (∀ o : Obj, k8 + 1 ≤ (w9.alloc o).heap.size) := hid (fun o => by simp; omega)
            go_wp2_with (at_builtin; refine wpList_append_own _ rfl _ _ 61 rfl (k8 + 1) 5 i5 (.int .u8 0) 1 1 Tryd.underlying61 hi5 hz5 hsi5 hby5 rfl (by decide) (.slice Ab bs.length cb) bs.length (byteCells bs) rfl (World.ownsRow.alloc HROW.out _) ⟨w9.heap.size, 0, none⟩ 1 1 [.int .u8 (((10 : Nat)) : Int)] rfl rfl (one_new _ _ _) (one_one _ _) HC3.out HC4.out (HC5.out _) ?_)
            intro v' wq hown' hgrow _
            have hg' := grownBy_of_alloc hgrow
            have hbq : Below (k8 + 1) w9 wq := (Below.refl (k8 + 1) w9).grown hg' hsw (fun k hk => (World.ownsRow.lt HROW.out k hk).1)
            have hgl8 : g < k8 + 1 := by have := HLT.out; omega
            have hRq := HR2.out.below hbq hgl8
            have hPq := HPX.out.below hbq
            have hrq : wq.ownsRow (k8 + 1) 5 1 v' (bs ++ [(lst S)[a']]).length (byteCells (bs ++ [(lst S)[a']])) := by rw [byteCells_app, List.length_append, hbx]; exact hown'
            have hcq := ReaderAt.c1 hRq
            have hcq2 := ReaderAt.c2 hRq
            have hcq3 := ReaderAt.c3 hRq
            have hfq := ReaderAt.free hRq 1
            have hfq2 := ReaderAt.free hRq 2
            have hfq3 := ReaderAt.free hRq 3
            have hll := lineOf_le (lst S) a'
            have e3 : IntKind.i64.wrap ((lineOf (lst S) a' : Int) + 1) = (lineOf (lst S) a' : Int) + 1 := IntWalk.i64_in _ (by omega)
            have hT := hRq.turn10 hlt' hxx (p := (lineOf (lst S) a' : Int) + 1) (q := (a' : Int) + 1) (r := (a' : Int) + 1) rfl rfl rfl
            have hrs := ((Rolled.set g 2 wq (.int .i64 ((lineOf (lst S) a' : Int) + 1))).trans (Rolled.set g 3 _ (.int .i64 ((a' : Int) + 1)))).trans (Rolled.set g 1 _ (.int .i64 ((a' : Int) + 1)))
            have HT := hid hT
            have HPT := hid (hPq.rolled hrs)
            have HWT := hid (hrs.row hrq (fun e => by have := (World.ownsRow.lt hrq g e).1; have := HLT.out; omega))
            clear hrq hown' hgrow hg' hbq hRq hPq hT hrs hll
            go_wp2
            go_region
            all_goals
              go_wp2
              go_roundg g'
              case measure => omega
              case rel => exact ⟨rfl, a' + 1, bs ++ [(lst S)[a']], ReaderAt.rolled HT.out rfl, by omega, HI2, ⟨HWT.out.1, HWT.out.2⟩, by simp; omega, ⟨HPT.out.os, HPT.out.tape, HPT.out.output, HPT.out.size, HPT.out.block⟩, by omega⟩
          · have hxb : ((x : Int) == 10) = false := by simp; omega
            have HC3 : Hid (bs.length + 1 ≤ maxLen) := by unfold maxLen; exact hid (by omega)
            have HC4 : Hid ((bs.length + 1) * 1 ≤ 140737488355328) := hid (by omega)
            have HC5 : Hid (∀ o : Obj, k8 + 1 ≤ (w9.alloc o).heap.size) := hid (fun o => by simp; omega)
            go_wp2_with (at_builtin; refine wpList_append_own _ rfl _ _ 61 rfl (k8 + 1) 5 i5 (.int .u8 0) 1 1 Tryd.underlying61 hi5 hz5 hsi5 hby5 rfl (by decide) (.slice Ab bs.length cb) bs.length (byteCells bs) rfl (World.ownsRow.alloc HROW.out _) ⟨w9.heap.size, 0, none⟩ 1 1 [.int .u8 (x : Int)] rfl rfl (one_new _ _ _) (one_one _ _) HC3.out HC4.out (HC5.out _) ?_)
            intro v' wq hown' hgrow _
            have hg' := grownBy_of_alloc hgrow
            have hbq : Below (k8 + 1) w9 wq := (Below.refl (k8 + 1) w9).grown hg' hsw (fun k hk => (World.ownsRow.lt HROW.out k hk).1)
            have hgl8 : g < k8 + 1 := by have := HLT.out; omega
            have hRq := HR2.out.below hbq hgl8
            have hPq := HPX.out.below hbq
            have hrq : wq.ownsRow (k8 + 1) 5 1 v' (bs ++ [(lst S)[a']]).length (byteCells (bs ++ [(lst S)[a']])) := by rw [byteCells_app, List.length_append, hbx]; exact hown'
            have hcq := ReaderAt.c1 hRq
            have hfq := ReaderAt.free hRq 1
            have hstep := hRq.step hlt' (by omega)
            have hrs := Rolled.set g 1 wq (.int .i64 ((a' : Int) + 1))
            have HRn := hid hstep
            have HPn := hid (hPq.rolled hrs)
            have HWn := hid (hrs.row hrq (fun e => by have := (World.ownsRow.lt hrq g e).1; have := HLT.out; omega))
            clear hrq hown' hgrow hg' hbq hRq hPq hstep hrs
            go_wp2
            go_roundg g'
            case measure => omega
            case rel => exact ⟨rfl, a' + 1, bs ++ [(lst S)[a']], HRn.out, by omega, HI2, HWn.out, by simp; omega, HPn.out, by omega⟩
end Go.Proofs.YtcpkefjijinhiaaDoor
