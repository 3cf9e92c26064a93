/-
  A way more in a network: the walk of add of travel. Conditions: the network's rows are the call's own, it has at most 8 buildings.
-/
import Derived.Test.YtocmbifljkcmeaaDoorR8AD
set_option linter.unusedVariables false
namespace Go.Proofs.YtocmbifljkcmeaaDoor
open Go Go.Proofs Go.RowKit Go.Lib

set_option maxHeartbeats 8000000 in
set_option maxRecDepth 100000 in
theorem add8_any (M B : Nat) (N : NetD) (r : WayD) (v0 v1 : Value) (w : World) (hM : M < B) (hB : B ≤ w.heap.size) (h : NetIn w M B N v0 v1) (h8 : N.2.length ≤ 8) (hn : N.1.length ≤ 1073741824) :
    Calls Tryd.prog 38 #[.pointer (some ⟨M, 0, none⟩), wayV r] w (AddOut8 M B N r v0 v1 w) := by
  have hb0 := (Below.refl w.heap.size w).alloc (Nat.le_refl _) (.cells #[.string (ba r.1), .string (ba r.2.1), .int .i64 r.2.2] 51)
  have hx0 := Box3.new w 51 (.string (ba r.1)) (.string (ba r.2.1)) (.int .i64 r.2.2)
  have hnet := (NetIn.mk (h.box.next hb0) (row_under h.ways hb0) (row_under h.strs hb0) : NetIn (w.alloc (.cells #[.string (ba r.1), .string (ba r.2.1), .int .i64 r.2.2] 51)) M B N v0 v1)
  have hp0 : Past (NetS M v0 v1) w (w.alloc (.cells #[.string (ba r.1), .string (ba r.2.1), .int .i64 r.2.2] 51)) := Past.ofBelow hb0
  have HM : Hid (M < B) := hid hM
  have hv1 : ∀ g, v1.ownBlock = some g → B ≤ g ∧ g < w.heap.size := fun g e => World.ownsRow.lt h.strs g e
  have HV1 := hid hv1
  unfold AddOut8 wayV
  obtain ⟨w1, hw1⟩ : ∃ w1, w.alloc (.cells #[.string (ba r.1), .string (ba r.2.1), .int .i64 r.2.2] 51) = w1 := ⟨_, rfl⟩
  have hs1 : w1.heap.size = w.heap.size + 1 := by rw [← hw1]; simp
  rw [hw1] at hb0 hx0 hnet hp0
  have hb1 := hb0
  obtain ⟨X1, hX1⟩ : ∃ z, ba r.1 = z := ⟨_, rfl⟩
  obtain ⟨X2, hX2⟩ : ∃ z, ba r.2.1 = z := ⟨_, rfl⟩
  have cI := including_any B v1 N.2 X1 w1.drew (by show B ≤ w1.heap.size; omega) (row_drawn8 hnet.strs) (by omega)
  rw [show lst X1 = r.1 by rw [← hX1, lst_ba]] at cI
  have CI := hid cI
  have cJ : ∀ (v' : Value) (w2 : World), Past (NetS M v0 v1) w1 w2 → S3.StrRow w2 B v' (inc N.2 r.1) → Calls Tryd.prog 54 #[v', .string X2] w2 (IncOut B v' (inc N.2 r.1) r.2.1 w2) := fun v' w2 hp hr => by
    have c := including_any B v' (inc N.2 r.1) X2 w2 (by have := hp.size; omega) hr (by rw [inc_len]; split <;> omega)
    rw [show lst X2 = r.2.1 by rw [← hX2, lst_ba]] at c
    exact c
  have CJ := hid cJ
  have HN := hid hnet
  have HX := hid hx0
  have HP := hid hp0
  have HB := hid hB
  have HS1 := hid hs1
  have m1 := hnet.box.c1
  have y0 := hx0.c0
  have y1 := hx0.c1
  rw [hX1] at y0
  rw [hX2] at y1
  have hdw : Hid (wayV r = .agg #[.string X1, .string X2, .int .i64 r.2.2]) := hid (by unfold wayV; rw [hX1, hX2])
  have hEQ : (X1.toList == X2.toList) = decide (r.1 = r.2.1) := by rw [← hX1, ← hX2]; exact beq_ba _ _
  have HEQ := hid hEQ
  rw [hX1, hX2] at hw1 ⊢
  have HBA := hid hX1
  have HBB := hid hX2
  clear h hb0 hb1 hx0 hnet hp0 cI cJ hX1 hX2 hv1 hEQ
  go_enter Tryd.func38, Tryd.ntmps38
  go_upto_region 1 with fail
  (try rw [hw1])
  go_cut [5] (fun vb wx => Hid (AddK M B N r v0 v1 vb w wx))
  case first =>
    unfold IncOut at CI
    go_region_held3 (fun w' => w'.cell? ⟨w.heap.size, 0, none⟩ = some (.string X1) ∧ w'.cell? ⟨w.heap.size, 1, none⟩ = some (.string X2) ∧ w'.cell? ⟨M, 1, none⟩ = some v1)
      (first | exact ⟨y0, y1, m1⟩ | exact ⟨z0, z1, zm⟩ | exact ⟨q0, q1, qm⟩)
      (first
        | (go_at_call 54; with_reducible refine (CI.out).mono ?_; rintro e w2 ⟨v', rfl, hr2, ho2, hg2, ha2⟩
           have hq2 := add_one (r := r) HN.out HX.out HP.out HM.out HB.out HV1.out ho2 hg2
           obtain ⟨hq2a, hq2b, hq2c⟩ := hq2
           have zm := hq2a.box.c1
           have z0 := hq2b.c0
           have z1 := hq2b.c1
           rw [HBA.out] at z0
           rw [HBB.out] at z1
           have CJ2 := hid (CJ.out v' w2 hq2c hr2)
           have HA2 := hid hq2a
           have HA3 := hid hq2b
           have HA4 := hid hq2c
           have HR2 := hid hr2
           have HAT2 := hid ha2
           clear hq2a hq2b hq2c hr2 ho2 hg2 ha2)
        | (go_at_call 54; unfold IncOut at CJ2; with_reducible refine (CJ2.out).mono ?_; rintro e w3 ⟨vb, rfl, hr3, ho3, hg3, ha3⟩
           have hq3 := add_two HA2.out HA3.out HP.out HA4.out HS1.out HM.out HB.out HV1.out HR2.out HAT2.out hr3 ho3 hg3 ha3
           have qm := hq3.net.box.c1
           have q0 := hq3.way.c0
           have q1 := hq3.way.c1
           rw [HBA.out] at q0
           rw [HBB.out] at q1
           have HQ3 := hid hq3
           clear hq3 hr3 ho3 hg3 ha3))
    all_goals
      go_wp2_with fail
      go_meet
      exact HQ3
  case rest =>
    have HK := hcut
    clear hcut CI CJ HN HX HP y0 y1 m1 hw1
    have z0 := HK.out.way.c0
    have z1 := HK.out.way.c1
    have z2 := HK.out.way.c2
    rw [HBA.out] at z0
    rw [HBB.out] at z1
    have zm := HK.out.net.box.c0
    by_cases he : r.1 = r.2.1
    · have ha : addW N r = (N, 1) := if_pos he
      have hbe := HEQ.out
      rw [decide_eq_true he] at hbe
      have HA := hid ha
      clear ha he HEQ
      go_wp2
      go_ret
      rw [HA.out]
      exact ⟨rfl, v0, v1, HK.out.net, HK.out.past, .inl rfl, .inl rfl⟩
    · have hbe := HEQ.out
      rw [decide_eq_false he] at hbe
      obtain ⟨A0, c0, rfl, hc01, hc02, hin0⟩ := HK.out.net.ways.waysIn
      have cT := twinContains_any A0 N.1 c0 r wc.heap.size wc.drew (Nat.le_refl _) ((hin0.kept (w' := wc.drew) (fun _ _ => rfl)).mono (fun b hb => hb.2)) (by omega)
      unfold Says at cT
      rw [hdw.out] at cT
      obtain ⟨D, hD⟩ : ∃ D, dupW N.1 r = D := ⟨_, rfl⟩
      rw [hD] at cT
      have CT := hid cT
      have HD := hid hD
      have HE := hid he
      clear HEQ hD cT hin0 he
      go_upto_region 4 with fail
      refine wp_region_still_tail 6 (by kernel_rfl) (by kernel_rfl) ?_
      simp only [List.take_succ_cons, List.take_zero, List.drop_succ_cons, List.drop_zero]
      repeat still_step
      refine wpStill_nil ?_
      change wpList _ _ _ _ _ wc.drew
      go_wp2_with fail
      refine CT.out.mono ?_
      rintro e w5 ⟨rfl, hb5⟩
      have hk5 := (HK.out.next ((Below.refl _ wc).drew)).next hb5
      have HK5 := hid hk5
      clear hb5 hk5 CT z0 z1 z2 zm
      cases D with
      | true =>
        have ha : addW N r = (N, 11) := by unfold addW; rw [if_neg HE.out, if_pos HD.out]
        have HA := hid ha
        clear ha
        go_wp2
        go_ret
        rw [HA.out]
        exact ⟨rfl, _, v1, HK5.out.net, HK5.out.past, .inl rfl, .inl rfl⟩
      | false =>
        obtain ⟨Ab, cb, rfl, hcb1, hcb2, hinb⟩ := HK5.out.new.strsIn
        by_cases hn8 : 8 < (names2 N.2 r).length
        · have ha : addW N r = (N, 2) := by unfold addW; rw [if_neg HE.out, if_neg (by rw [HD.out]; simp), if_pos hn8]
          have hn8' : (8 : Int) < ((names2 N.2 r).length : Int) := by omega
          have HA := hid ha
          clear ha hinb
          go_wp2
          go_ret
          rw [HA.out]
          exact ⟨rfl, _, v1, HK5.out.net, HK5.out.past, .inl rfl, .inl rfl⟩
        · have ha : addW N r = ((N.1 ++ [r], names2 N.2 r), 0) := by unfold addW; rw [if_neg HE.out, if_neg (by rw [HD.out]; simp), if_neg hn8]
          have hn8' : ¬ (8 : Int) < ((names2 N.2 r).length : Int) := by omega
          have HA := hid ha
          have z0 := HK5.out.way.c0
          have z1 := HK5.out.way.c1
          have z2 := HK5.out.way.c2
          rw [HBA.out] at z0
          rw [HBB.out] at z1
          obtain ⟨zm, zn⟩ := And.intro HK5.out.net.box.c0 HK5.out.net.box.c1
          have f0 := HK5.out.net.box.free 0
          have f1 := HK5.out.net.box.free 1
          have hnet := HK5.out.net
          have hvt : wayVs r = [.string X1, .string X2, .int .i64 r.2.2] := by unfold wayVs; rw [HBA.out, HBB.out]
          have hb51 := (Below.refl w5.heap.size w5).alloc (Nat.le_refl _) (.cells #[.string X1, .string X2, .int .i64 r.2.2] 51)
          have hsz5 : B ≤ w5.heap.size := by have := HK5.out.past.size; have := HB.out; omega
          have hv0l : ∀ g, (Value.slice A0 N.1.length c0).ownBlock = some g → B ≤ g ∧ g < w5.heap.size := fun g e => World.ownsRow.lt hnet.ways g e
          have hv0w : ∀ g, (Value.slice A0 N.1.length c0).ownBlock = some g → (Value.slice Ab (names2 N.2 r).length cb).ownBlock ≠ some g := fun g e => kinds_ne8 hnet.ways HK5.out.new (by decide) g e
          have hbs1 : Box2 (w5.setCell ⟨M, 1, none⟩ (.slice Ab (names2 N.2 r).length cb)) M 66 (.slice A0 N.1.length c0) (.slice Ab (names2 N.2 r).length cb) := hnet.box.set1 _
          have hbe1 := hnet.box.next hb51
          obtain ⟨e0, e1⟩ := And.intro hbe1.c0 hbe1.c1
          have j0 := hbe1.free 0
          have j1 := hbe1.free 1
          have hbs2 := hbs1.next ((Below.refl _ _).alloc (Nat.le_refl _) (.cells #[.string X1, .string X2, .int .i64 r.2.2] 51))
          have hbs3 := hbe1.set1 (.slice Ab (names2 N.2 r).length cb)
          have hMlt : M < w5.heap.size := hnet.box.lt
          obtain ⟨V1, w71, hrun1, hway1, hg1, hmv1⟩ := way_run ((w5.alloc (.cells #[.string X1, .string X2, .int .i64 r.2.2] 51)).drew) B w5.heap.size N.1 r _ (row_under (row_under hnet.ways hb51) ((Below.refl _ _).drew)) (by simp; omega) (by omega) (by rw [hvt]; exact three_new w5 _ _ _ _)
          obtain ⟨g1, cap1, rfl, _, _⟩ := World.ownsRow.form hway1 (by simp)
          have hbx1 : Box2 w71 M 66 (.slice A0 N.1.length c0) v1 := (hnet.box.next hb51).kept (hg1.block M (by have := hnet.box.lt; simp; omega) (fun e => by have := hv0l M e.symm; have := HM.out; omega))
          obtain ⟨q0, q1⟩ := And.intro hbx1.c0 hbx1.c1
          have k0 := hbx1.free 0
          have k1 := hbx1.free 1
          have hs3 : ((w5.alloc (.cells #[.string X1, .string X2, .int .i64 r.2.2] 51)).setCell ⟨M, 1, none⟩ (.slice Ab (names2 N.2 r).length cb)) = (w5.setCell ⟨M, 1, none⟩ (.slice Ab (names2 N.2 r).length cb)).alloc (.cells #[.string X1, .string X2, .int .i64 r.2.2] 51) := World.setCell_alloc_past _ _ _ _ hMlt
          have hrw : WayRow ((w5.alloc (.cells #[.string X1, .string X2, .int .i64 r.2.2] 51)).setCell ⟨M, 1, none⟩ (.slice Ab (names2 N.2 r).length cb)) B 51 (.slice A0 N.1.length c0) N.1 := row_past (row_under hnet.ways hb51) ((Past.refl (fun k => k = M) _).setM 1 _) (fun g e => by have := hv0l g e; have := HM.out; show ¬ g = M; omega)
          obtain ⟨V2, w72, hrun2, hway2, hg2, hmv2⟩ := way_run (((w5.alloc (.cells #[.string X1, .string X2, .int .i64 r.2.2] 51)).setCell ⟨M, 1, none⟩ (.slice Ab (names2 N.2 r).length cb)).drew) B w5.heap.size N.1 r _ (row_under hrw ((Below.refl _ _).drew)) (by simp; omega) (by omega) (fun j u hj => by
            show ((w5.alloc (.cells #[.string X1, .string X2, .int .i64 r.2.2] 51)).setCell ⟨M, 1, none⟩ (.slice Ab (names2 N.2 r).length cb)).cell? _ = _
            rw [hs3]
            have := three_new (w5.setCell ⟨M, 1, none⟩ (.slice Ab (names2 N.2 r).length cb)) (.string X1) (.string X2) (.int .i64 r.2.2) 51 j u (by rw [← hvt]; exact hj)
            simpa using this)
          obtain ⟨g2, cap2, rfl, _, _⟩ := World.ownsRow.form hway2 (by simp)
          have hbx2 : Box2 w72 M 66 (.slice A0 N.1.length c0) (.slice Ab (names2 N.2 r).length cb) := hbs3.kept (hg2.block M (by simp; omega) (fun e => by have := hv0l M e.symm; have := HM.out; omega))
          obtain ⟨p0, p1⟩ := And.intro hbx2.c0 hbx2.c1
          have l0 := hbx2.free 0
          have l1 := hbx2.free 1
          obtain ⟨nn, hnn⟩ : ∃ m, (N.1 ++ [r]).length = m := ⟨_, rfl⟩
          rw [hnn] at hrun1 hrun2
          have hrun3 := hrun2
          rw [hs3] at hrun3
          have hpU : Past (fun k => k = M) w5 (w5.alloc (.cells #[.string X1, .string X2, .int .i64 r.2.2] 51)).drew := Past.ofBelow hb51.drew
          have hpU2 : Past (fun k => k = M) w5 ((w5.alloc (.cells #[.string X1, .string X2, .int .i64 r.2.2] 51)).setCell ⟨M, 1, none⟩ (.slice Ab (names2 N.2 r).length cb)).drew := (Past.setM (Past.ofBelow hb51) 1 _).trans (Past.ofBelow ((Below.refl _ _).drew))
          have hE1 := add_fin HK5.out HM.out hpU hway1 hg1 hmv1 (((Past.refl _ w71).setM 0 (.slice (some ⟨g1, 0, none⟩) nn cap1)).setM 1 (.slice Ab (names2 N.2 r).length cb)) (by rw [hnn]; exact hbx1.set _ _)
          have hE2 := add_fin HK5.out HM.out hpU2 hway2 hg2 hmv2 ((Past.refl _ w72).setM 0 (.slice (some ⟨g2, 0, none⟩) nn cap2)) (by rw [hnn]; exact hbx2.put0 _)
          have HE1 := hid hE1
          have HE2 := hid hE2
          clear hE1 hE2 hpU hpU2 hway1 hway2 hg1 hg2 hmv1 hmv2 hnn hs3 hrw hbx1 hbx2 hbs1 hbs2 hbs3 hbe1 hb51 hv0l hv0w hnet
          go_upto_region 8 with fail
          go_region_law (first
            | (refine step_append_known rfl (.tmp 39) (.tmp 41) 64 64 rfl _ _ _ (by simp [Act.eval]) (by simp [Act.eval]) hrun1 ?_)
            | (refine step_append_known rfl (.tmp 39) (.tmp 41) 64 64 rfl _ _ _ (by simp [Act.eval]) (by simp [Act.eval]) hrun2 ?_)
            | (refine step_append_known rfl (.tmp 39) (.tmp 41) 64 64 rfl _ _ _ (by simp [Act.eval]) (by simp [Act.eval]) hrun3 ?_))
          all_goals (go_wp2; go_ret; rw [HA.out]; first | exact ⟨rfl, HE1.out⟩ | exact ⟨rfl, HE2.out⟩)
end Go.Proofs.YtocmbifljkcmeaaDoor
