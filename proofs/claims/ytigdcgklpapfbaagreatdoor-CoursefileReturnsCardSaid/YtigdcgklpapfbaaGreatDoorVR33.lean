/-
  That the specification finds equal classes equal. Conditions: the classes lie in memory.
  That the specification finds equal lists of classes equal. Conditions: the lists lie in memory.
  What holds while classes are read out of records. Conditions: as stated.
-/
import Derived.Test.YtigdcgklpapfbaaGreatDoorVR32
set_option linter.unusedVariables false
namespace Go.Proofs.YtigdcgklpapfbaaGreatDoor.S10
open Go Go.Proofs Go.RowKit Go.Lib Go.Proofs.YtigdcgklpapfbaaGreatDoor

/-- Two boxes, of a call that began in w0. -/
structure SBX (w0 : World) (a b : Array Value) (W : World) : Prop where
  x : BoxC W w0.heap.size a
  y : BoxC W (w0.heap.size + 1) b
  b : Below w0.heap.size w0 W
theorem SBX.next {w0 W W' : World} {a b : Array Value} (h : SBX w0 a b W) (k : Below W.heap.size W W') : SBX w0 a b W' := ⟨h.x.next k, h.y.next k, h.b.trans (k.mono h.b.size)⟩
theorem SBX.all {w w' : World} {v0 v1 v2 v3 v4 v5 v6 v7 v8 u0 u1 u2 u3 u4 u5 u6 u7 u8 : Value} (h : SBX w #[v0, v1, v2, v3, v4, v5, v6, v7, v8] #[u0, u1, u2, u3, u4, u5, u6, u7, u8] w') :
    w'.cell? ⟨w.heap.size, 0, none⟩ = some v0 ∧ w'.cell? ⟨w.heap.size, 1, none⟩ = some v1 ∧ w'.cell? ⟨w.heap.size, 2, none⟩ = some v2 ∧ w'.cell? ⟨w.heap.size, 3, none⟩ = some v3 ∧ w'.cell? ⟨w.heap.size, 4, none⟩ = some v4 ∧ w'.cell? ⟨w.heap.size, 5, none⟩ = some v5 ∧ w'.cell? ⟨w.heap.size, 6, none⟩ = some v6 ∧ w'.cell? ⟨w.heap.size, 7, none⟩ = some v7 ∧ w'.cell? ⟨w.heap.size, 8, none⟩ = some v8 ∧ w'.cell? ⟨w.heap.size + 1, 0, none⟩ = some u0 ∧ w'.cell? ⟨w.heap.size + 1, 1, none⟩ = some u1 ∧ w'.cell? ⟨w.heap.size + 1, 2, none⟩ = some u2 ∧ w'.cell? ⟨w.heap.size + 1, 3, none⟩ = some u3 ∧ w'.cell? ⟨w.heap.size + 1, 4, none⟩ = some u4 ∧ w'.cell? ⟨w.heap.size + 1, 5, none⟩ = some u5 ∧ w'.cell? ⟨w.heap.size + 1, 6, none⟩ = some u6 ∧ w'.cell? ⟨w.heap.size + 1, 7, none⟩ = some u7 ∧ w'.cell? ⟨w.heap.size + 1, 8, none⟩ = some u8 := by
  obtain ⟨a0, a1, a2, a3, a4, a5, a6, a7, a8⟩ := h.x.cells
  obtain ⟨e0, e1, e2, e3, e4, e5, e6, e7, e8⟩ := h.y.cells
  exact ⟨a0, a1, a2, a3, a4, a5, a6, a7, a8, e0, e1, e2, e3, e4, e5, e6, e7, e8⟩
set_option maxHeartbeats 16000000 in
set_option maxRecDepth 100000 in
theorem sameClass_any (x : ClassD) (q q' : ClassA) (w : World) (h : ClassIn w (fun k => k < w.heap.size) x q) (h' : ClassIn w (fun k => k < w.heap.size) x q') :
    Calls Tryz.prog 60 #[clsV x q, clsV x q'] w (Says (.bool true) w) := by
  obtain ⟨c0, c1, c2, len, pats, seats, feats, staff, starts⟩ := x
  obtain ⟨aP, caP, aF, caF, aS, caS, aT, caT⟩ := q
  obtain ⟨bP, cbP, bF, cbF, bS, cbS, bT, cbT⟩ := q'
  have HI : Hid (∀ W, Below w.heap.size w W → Calls Tryz.prog 93 #[.slice aP pats.length caP, .slice bP pats.length cbP] W fun e w' => e = .returned (.bool true) ∧ ∃ q, w' = W.drewN q) := hid (fun W hb => by
    have h0 := sameInts_any aP bP pats pats caP cbP w.heap.size w.heap.size W (FlatIn.intsIn (h.p.below hb)) (FlatIn.intsIn (h'.p.below hb)) (Nat.le_trans h.p1 h.p2)
    rw [decide_eq_true rfl] at h0
    exact h0)
  have HF : Hid (∀ W, Below w.heap.size w W → Calls Tryz.prog 55 #[.slice aF feats.length caF, .slice bF feats.length cbF] W fun e w' => e = .returned (.bool true) ∧ ∃ q, w' = W.drewN q) := hid (fun W hb => by
    have h0 := S3.sameStrings_any aF bF feats feats caF cbF _ _ W (h.f.kept (fun k hk => hb.block k hk)) (h'.f.kept (fun k hk => hb.block k hk)) (Nat.le_trans h.f1 h.f2)
    rw [decide_eq_true rfl] at h0
    exact h0)
  have HS : Hid (∀ W, Below w.heap.size w W → Calls Tryz.prog 55 #[.slice aS staff.length caS, .slice bS staff.length cbS] W fun e w' => e = .returned (.bool true) ∧ ∃ q, w' = W.drewN q) := hid (fun W hb => by
    have h0 := S3.sameStrings_any aS bS staff staff caS cbS _ _ W (h.s.kept (fun k hk => hb.block k hk)) (h'.s.kept (fun k hk => hb.block k hk)) (Nat.le_trans h.s1 h.s2)
    rw [decide_eq_true rfl] at h0
    exact h0)
  have HT : Hid (∀ W, Below w.heap.size w W → StartsIn W (fun k => k < w.heap.size) aT starts ∧ StartsIn W (fun k => k < w.heap.size) bT starts) := hid (fun W hb => ⟨h.t.below hb, h'.t.below hb⟩)
  have htl : starts.length ≤ 9223372036854775807 := Nat.le_trans h.t1 h.t2
  unfold clsV Says
  dsimp only
  obtain ⟨PN, hPN⟩ : ∃ N, pats.length = N := ⟨_, rfl⟩
  obtain ⟨FN, hFN⟩ : ∃ N, feats.length = N := ⟨_, rfl⟩
  obtain ⟨SN, hSN⟩ : ∃ N, staff.length = N := ⟨_, rfl⟩
  obtain ⟨TN, hTN⟩ : ∃ N, starts.length = N := ⟨_, rfl⟩
  have HTN := hid hTN
  rw [hPN] at HI ⊢
  rw [hFN] at HF ⊢
  rw [hSN] at HS ⊢
  rw [hTN] at htl ⊢
  have h2 := two_boxes w #[.string (ba c0), .string (ba c1), .string (ba c2), .int .i64 len, .slice aP PN caP, .int .i64 seats, .slice aF FN caF, .slice aS SN caS, .slice aT TN caT] #[.string (ba c0), .string (ba c1), .string (ba c2), .int .i64 len, .slice bP PN cbP, .int .i64 seats, .slice bF FN cbF, .slice bS SN cbS, .slice bT TN cbT]
  have HX : Hid (SBX w #[.string (ba c0), .string (ba c1), .string (ba c2), .int .i64 len, .slice aP PN caP, .int .i64 seats, .slice aF FN caF, .slice aS SN caS, .slice aT TN caT] #[.string (ba c0), .string (ba c1), .string (ba c2), .int .i64 len, .slice bP PN cbP, .int .i64 seats, .slice bF FN cbF, .slice bS SN cbS, .slice bT TN cbT] ((w.alloc (.cells #[.string (ba c0), .string (ba c1), .string (ba c2), .int .i64 len, .slice aP PN caP, .int .i64 seats, .slice aF FN caF, .slice aS SN caS, .slice aT TN caT] 33)).alloc (.cells #[.string (ba c0), .string (ba c1), .string (ba c2), .int .i64 len, .slice bP PN cbP, .int .i64 seats, .slice bF FN cbF, .slice bS SN cbS, .slice bT TN cbT] 33))) := hid ⟨h2.1, h2.2.1, h2.2.2⟩
  obtain ⟨X0, hX0⟩ : ∃ X, ba c0 = X := ⟨_, rfl⟩
  obtain ⟨X1, hX1⟩ : ∃ X, ba c1 = X := ⟨_, rfl⟩
  obtain ⟨X2, hX2⟩ : ∃ X, ba c2 = X := ⟨_, rfl⟩
  rw [hX0, hX1, hX2] at HX ⊢
  clear h h' h2 hPN hFN hSN hTN hX0 hX1 hX2
  go_enter Tryz.func60, Tryz.ntmps60
  go_upto_region 1 with fail
  generalize World.alloc _ _ = w1 at HX ⊢
  obtain ⟨y0, y1, y2, y3, y4, y5, y6, y7, y8, z0, z1, z2, z3, z4, z5, z6, z7, z8⟩ := SBX.all HX.out
  go_wp2_with fail
  refine (HI.out _ HX.out.b).mono ?_
  rintro e w2 ⟨rfl, q2, hq2⟩
  have HX2 := hid (HX.out.next (W' := w2) (by rw [hq2]; exact S3.below_drewN (Below.refl _ _) q2))
  clear hq2 HX y0 y1 y2 y3 y4 y5 y6 y7 y8 z0 z1 z2 z3 z4 z5 z6 z7 z8
  obtain ⟨y0, y1, y2, y3, y4, y5, y6, y7, y8, z0, z1, z2, z3, z4, z5, z6, z7, z8⟩ := SBX.all HX2.out
  go_wp2_with fail
  refine (HF.out _ HX2.out.b).mono ?_
  rintro e w3 ⟨rfl, q3, hq3⟩
  have HX3 := hid (HX2.out.next (W' := w3) (by rw [hq3]; exact S3.below_drewN (Below.refl _ _) q3))
  clear hq3 HX2 y0 y1 y2 y3 y4 y5 y6 y7 y8 z0 z1 z2 z3 z4 z5 z6 z7 z8
  obtain ⟨y0, y1, y2, y3, y4, y5, y6, y7, y8, z0, z1, z2, z3, z4, z5, z6, z7, z8⟩ := SBX.all HX3.out
  go_wp2_with fail
  refine (HS.out _ HX3.out.b).mono ?_
  rintro e w4 ⟨rfl, q4, hq4⟩
  have HX4 := hid (HX3.out.next (W' := w4) (by rw [hq4]; exact S3.below_drewN (Below.refl _ _) q4))
  clear hq4 HX3 y0 y1 y2 y3 y4 y5 y6 y7 y8 z0 z1 z2 z3 z4 z5 z6 z7 z8
  obtain ⟨y0, y1, y2, y3, y4, y5, y6, y7, y8, z0, z1, z2, z3, z4, z5, z6, z7, z8⟩ := SBX.all HX4.out
  go_wp2
  clear y0 y1 y2 y3 y4 y5 y6 y7 y8 z0 z1 z2 z3 z4 z5 z6 z7 z8
  go_loopw [5] (fun iv wr => ∃ i : Nat, iv = .int .i64 (i : Int) ∧ i ≤ TN ∧ Hid (SBX w #[.string X0, .string X1, .string X2, .int .i64 len, .slice aP PN caP, .int .i64 seats, .slice aF FN caF, .slice aS SN caS, .slice aT TN caT] #[.string X0, .string X1, .string X2, .int .i64 len, .slice bP PN cbP, .int .i64 seats, .slice bF FN cbF, .slice bS SN cbS, .slice bT TN cbT] wr)) (fun iv _ => TN - (RowKit.intOf iv).toNat)
  case atStart => exact ⟨0, rfl, Nat.zero_le _, HX4⟩
  case round =>
    obtain ⟨i, rfl, hi, hX⟩ := hrel
    clear HX4
    obtain ⟨y0, y1, y2, y3, y4, y5, y6, y7, y8, z0, z1, z2, z3, z4, z5, z6, z7, z8⟩ := SBX.all hX.out
    by_cases hlt : i < TN
    · have hltz : (i : Int) < (TN : Int) := by omega
      have dk : decide (TN ≤ i) = false := decide_eq_false (by omega)
      obtain ⟨ht1, ht2⟩ := HT.out _ hX.out.b
      have hil : i < starts.length := by rw [HTN.out]; exact hlt
      obtain ⟨b1, o1, rfl, _, a0, a1⟩ := FlatIn.start ht1 hil
      obtain ⟨b2, o2, rfl, _, e0, e1⟩ := FlatIn.start ht2 hil
      obtain ⟨⟨t0, t1⟩, ht⟩ : ∃ t, starts[i] = t := ⟨_, rfl⟩
      rw [ht] at a0 a1 e0 e1
      dsimp only at a0 a1 e0 e1
      clear ht hil ht1 ht2
      go_wp2
      go_quiet (fail)
      go_wp2
      go_roundw
      case rel => exact ⟨i + 1, by go_num, by omega, hid (hX.out.next (S3.below_drewN (Below.refl _ _) _))⟩
      case measure => simp [RowKit.intOf]; omega
    · have hltz : ¬ (i : Int) < (TN : Int) := by omega
      go_wp2
      go_ret
      exact ⟨rfl, hX.out.b⟩
end Go.Proofs.YtigdcgklpapfbaaGreatDoor.S10

set_option linter.unusedVariables false
namespace Go.Proofs.YtigdcgklpapfbaaGreatDoor.S10
open Go Go.Proofs Go.RowKit Go.Lib Go.Proofs.YtigdcgklpapfbaaGreatDoor

/-- Two classes in lists. -/
structure SDX (w0 : World) (b1 p1 b2 p2 : Nat) (x : ClassD) (q q' : ClassA) (W : World) : Prop where
  cx : ClassAt W b1 p1 x q
  cy : ClassAt W b2 p2 x q'
  l1 : b1 < w0.heap.size
  l2 : b2 < w0.heap.size
  b : Below w0.heap.size w0 W
theorem SDX.next {w0 W W' : World} {b1 p1 b2 p2 : Nat} {x : ClassD} {q q' : ClassA} (h : SDX w0 b1 p1 b2 p2 x q q' W) (k : Below W.heap.size W W') : SDX w0 b1 p1 b2 p2 x q q' W' :=
  ⟨h.cx.kept (k.block _ (Nat.lt_of_lt_of_le h.l1 h.b.size)), h.cy.kept (k.block _ (Nat.lt_of_lt_of_le h.l2 h.b.size)), h.l1, h.l2, h.b.trans (k.mono h.b.size)⟩
set_option maxHeartbeats 16000000 in
set_option maxRecDepth 100000 in
theorem same10_any (A A' : Option Addr) (l : List ClassD) (c c' : Nat) (w : World) (h : ClassesIn w (fun k => k < w.heap.size) A l) (h' : ClassesIn w (fun k => k < w.heap.size) A' l) (hl : l.length ≤ 9223372036854775807) :
    Calls Tryz.prog 21 #[.slice A l.length c, .slice A' l.length c'] w (Says (.bool true) w) := by
  have H := hid h
  have H' := hid h'
  clear h h'
  unfold Says
  go_enter Tryz.func21, Tryz.ntmps21
  go_wp2
  go_loopw [5] (fun iv wr => ∃ i : Nat, iv = .int .i64 (i : Int) ∧ i ≤ l.length ∧ Hid (Below w.heap.size w wr)) (fun iv _ => l.length - (RowKit.intOf iv).toNat)
  case atStart => exact ⟨0, rfl, Nat.zero_le _, hid (Below.refl _ _)⟩
  case round =>
    obtain ⟨i, rfl, hi, hB⟩ := hrel
    by_cases hlt : i < l.length
    · have hltz : (i : Int) < (l.length : Int) := by omega
      have dk : decide (l.length ≤ i) = false := decide_eq_false (by omega)
      obtain ⟨b1, o1, q, rfl, hb1, hi1, hc1⟩ := (H.out.below hB.out).at_ hlt
      obtain ⟨b2, o2, q', rfl, hb2, hi2, hc2⟩ := (H'.out.below hB.out).at_ hlt
      obtain ⟨x, hx⟩ : ∃ x, l[i] = x := ⟨_, rfl⟩
      rw [hx] at hi1 hc1 hi2 hc2
      have hk' : SDX w b1 (o1 + i * 9) b2 (o2 + i * 9) x q q' wr := ⟨hc1, hc2, hb1, hb2, hB.out⟩
      have CC : Hid (∀ W, SDX w b1 (o1 + i * 9) b2 (o2 + i * 9) x q q' W → Calls Tryz.prog 60 #[.agg #[.string (ba x.code), .string (ba x.course), .string (ba x.part), .int .i64 x.len, .slice q.aP x.pats.length q.cP, .int .i64 x.seats, .slice q.aF x.feats.length q.cF, .slice q.aS x.staff.length q.cS, .slice q.aT x.starts.length q.cT], .agg #[.string (ba x.code), .string (ba x.course), .string (ba x.part), .int .i64 x.len, .slice q'.aP x.pats.length q'.cP, .int .i64 x.seats, .slice q'.aF x.feats.length q'.cF, .slice q'.aS x.staff.length q'.cS, .slice q'.aT x.starts.length q'.cT]] W fun e w' => e = .returned (.bool true) ∧ SDX w b1 (o1 + i * 9) b2 (o2 + i * 9) x q q' w') := hid (fun W hW => by
        have hs := hW.b.size
        have h0 := sameClass_any x q q' W ((hi1.kept (w' := W) (fun k hk => (hW.b.block k hk).trans (hB.out.block k hk).symm)).mono (fun k hk => Nat.lt_of_lt_of_le hk hs)) ((hi2.kept (w' := W) (fun k hk => (hW.b.block k hk).trans (hB.out.block k hk).symm)).mono (fun k hk => Nat.lt_of_lt_of_le hk hs))
        exact h0.mono fun e w' ⟨he, hb⟩ => ⟨he, hW.next hb⟩)
      clear hx hc1 hc2 hi1 hi2 hB
      go_upto_region 6 with fail
      go_region_held3 (fun w' => w'.cell? ⟨b1, o1 + i * 9, none⟩ = some (.string (ba x.code)) ∧ w'.cell? ⟨b1, o1 + i * 9 + 1, none⟩ = some (.string (ba x.course)) ∧ w'.cell? ⟨b1, o1 + i * 9 + 2, none⟩ = some (.string (ba x.part)) ∧ w'.cell? ⟨b1, o1 + i * 9 + 3, none⟩ = some (.int .i64 x.len) ∧ w'.cell? ⟨b1, o1 + i * 9 + 4, none⟩ = some (.slice q.aP x.pats.length q.cP) ∧ w'.cell? ⟨b1, o1 + i * 9 + 5, none⟩ = some (.int .i64 x.seats) ∧ w'.cell? ⟨b1, o1 + i * 9 + 6, none⟩ = some (.slice q.aF x.feats.length q.cF) ∧ w'.cell? ⟨b1, o1 + i * 9 + 7, none⟩ = some (.slice q.aS x.staff.length q.cS) ∧ w'.cell? ⟨b1, o1 + i * 9 + 8, none⟩ = some (.slice q.aT x.starts.length q.cT) ∧ w'.cell? ⟨b2, o2 + i * 9, none⟩ = some (.string (ba x.code)) ∧ w'.cell? ⟨b2, o2 + i * 9 + 1, none⟩ = some (.string (ba x.course)) ∧ w'.cell? ⟨b2, o2 + i * 9 + 2, none⟩ = some (.string (ba x.part)) ∧ w'.cell? ⟨b2, o2 + i * 9 + 3, none⟩ = some (.int .i64 x.len) ∧ w'.cell? ⟨b2, o2 + i * 9 + 4, none⟩ = some (.slice q'.aP x.pats.length q'.cP) ∧ w'.cell? ⟨b2, o2 + i * 9 + 5, none⟩ = some (.int .i64 x.seats) ∧ w'.cell? ⟨b2, o2 + i * 9 + 6, none⟩ = some (.slice q'.aF x.feats.length q'.cF) ∧ w'.cell? ⟨b2, o2 + i * 9 + 7, none⟩ = some (.slice q'.aS x.staff.length q'.cS) ∧ w'.cell? ⟨b2, o2 + i * 9 + 8, none⟩ = some (.slice q'.aT x.starts.length q'.cT))
        (first | exact ⟨hk'.cx.c0, hk'.cx.c1, hk'.cx.c2, hk'.cx.c3, hk'.cx.c4, hk'.cx.c5, hk'.cx.c6, hk'.cx.c7, hk'.cx.c8, hk'.cy.c0, hk'.cy.c1, hk'.cy.c2, hk'.cy.c3, hk'.cy.c4, hk'.cy.c5, hk'.cy.c6, hk'.cy.c7, hk'.cy.c8⟩ | exact ⟨(hk'.next (Below.refl _ _).drew).cx.c0, (hk'.next (Below.refl _ _).drew).cx.c1, (hk'.next (Below.refl _ _).drew).cx.c2, (hk'.next (Below.refl _ _).drew).cx.c3, (hk'.next (Below.refl _ _).drew).cx.c4, (hk'.next (Below.refl _ _).drew).cx.c5, (hk'.next (Below.refl _ _).drew).cx.c6, (hk'.next (Below.refl _ _).drew).cx.c7, (hk'.next (Below.refl _ _).drew).cx.c8, (hk'.next (Below.refl _ _).drew).cy.c0, (hk'.next (Below.refl _ _).drew).cy.c1, (hk'.next (Below.refl _ _).drew).cy.c2, (hk'.next (Below.refl _ _).drew).cy.c3, (hk'.next (Below.refl _ _).drew).cy.c4, (hk'.next (Below.refl _ _).drew).cy.c5, (hk'.next (Below.refl _ _).drew).cy.c6, (hk'.next (Below.refl _ _).drew).cy.c7, (hk'.next (Below.refl _ _).drew).cy.c8⟩)
        (first
          | (go_at_call 60; refine (CC.out _ (hk'.next (Below.refl _ _).drew)).mono ?_; rintro e w' ⟨rfl, hk'⟩)
          | (go_at_call 60; refine (CC.out _ hk').mono ?_; rintro e w' ⟨rfl, hk'⟩))
      all_goals
        have HV := hid hk'.b
        clear hk'
        go_wp2
        go_roundw
        case rel => exact ⟨i + 1, by go_num, by omega, HV⟩
        case measure => simp [RowKit.intOf]; omega
    · have hltz : ¬ (i : Int) < (l.length : Int) := by omega
      go_wp2
      go_ret
      exact ⟨rfl, hB.out⟩
end Go.Proofs.YtigdcgklpapfbaaGreatDoor.S10

set_option linter.unusedVariables false
namespace Go.Proofs.YtigdcgklpapfbaaGreatDoor.S10
open Go Go.Proofs Go.RowKit Go.Lib Go.Proofs.YtigdcgklpapfbaaGreatDoor

structure EInv (M : Nat) (w : World) (rs : List ClassD) (ps : List ProbD) (cs : List Str) (v1 v2 : Value) (W : World) : Prop where
  row : ∃ Lr : List (ClassD × ClassA), Lr.map (·.1) = rs ∧ W.ownsRow w.heap.size 33 9 v1 Lr.length (clsVals Lr) ∧ ∀ p ∈ Lr, ClassIn W (fun k => w.heap.size ≤ k ∧ k < W.heap.size ∧ some k ≠ v1.ownBlock ∧ some k ≠ v2.ownBlock) p.1 p.2
  probs : ProbsRow W w.heap.size v2 ps
  map : KMap W M cs
  gr : w.grownBy W (some M)
theorem EInv.start {M : Nat} {w : World} (h : KMap w M []) : EInv M w [] [] [] (.slice none 0 0) (.slice none 0 0) w :=
  ⟨⟨[], rfl, World.ownsRow_nil _ _ _ _, fun p hp => by simp at hp⟩, World.ownsRow_nil _ _ _ _, h, grown_none (below_grown (Below.refl _ w) (Nat.le_refl _))⟩
theorem EInv.below {M : Nat} {w W : World} {rs : List ClassD} {ps : List ProbD} {cs : List Str} {v1 v2 : Value} (h : EInv M w rs ps cs v1 v2 W) (hM : M < w.heap.size) : Below M w W :=
  ⟨h.gr.os, h.gr.tape, h.gr.output, h.gr.size, fun k hk => h.gr.block k (by omega) (fun e => by injection e with e; omega)⟩
section
variable {M : Nat} {w W W' : World} {rs : List ClassD} {ps : List ProbD} {cs cs' : List Str} {v1 v2 : Value}
/-- A call in between, which turns nothing but the map at most. -/
theorem EInv.past (h : EInv M w rs ps cs v1 v2 W) (hM : M < w.heap.size) (hg : W.grownBy W' (some M)) (hk : KMap W' M cs') : EInv M w rs ps cs' v1 v2 W' := by
  obtain ⟨⟨Lr, hL, ho, hr⟩, hp, _, hb⟩ := h
  have hs := hg.size
  have hbs := hb.size
  have e1 : some M ≠ v1.ownBlock := fun e => by have := (own_lt ho M e.symm).1; omega
  have e2 : some M ≠ v2.ownBlock := fun e => by have := (own_lt hp M e.symm).1; omega
  refine ⟨⟨Lr, hL, World.ownsRow.kept ho hg (.inr fun e => e1 e.symm), fun p hp' => ?_⟩, World.ownsRow.kept hp hg (.inr fun e => e2 e.symm), hk, hb.andThen hg (fun j hj => .inr hj)⟩
  exact ((hr p hp').kept (fun k hk => hg.block k hk.2.1 (fun e => by injection e; omega))).mono (fun k hk => ⟨hk.1, by omega, hk.2.2⟩)
theorem EInv.under (h : EInv M w rs ps cs v1 v2 W) (hM : M < w.heap.size) (hb : Below W.heap.size W W') : EInv M w rs ps cs v1 v2 W' :=
  h.past hM (grown_none ⟨hb.os, hb.tape, hb.output, hb.size, fun k hk _ => hb.block k hk⟩) (h.map.below hb)
/-- One problem more. -/
theorem EInv.prob {v2' : Value} {p : ProbD} (h : EInv M w rs ps cs v1 v2 W) (hM : M < w.heap.size) (hown : ProbsRow W' w.heap.size v2' (ps ++ [p])) (hg : W.grownBy W' v2.ownBlock) (hat : v2'.ownBlock = v2.ownBlock ∨ ∃ k, v2'.ownBlock = some k ∧ W.heap.size ≤ k) : EInv M w rs (ps ++ [p]) cs v1 v2' W' := by
  obtain ⟨⟨Lr, hL, ho, hr⟩, hp, hk, hb⟩ := h
  have hs := hg.size
  have hbs := hb.size
  have e2 : some M ≠ v2.ownBlock := fun e => by have := (own_lt hp M e.symm).1; omega
  refine ⟨⟨Lr, hL, World.ownsRow.kept ho hg (kinds_ne ho hp (by decide)), fun p hp' => ?_⟩, hown, hk.kept hg e2, hb.andThen hg (fun j hj => .inl (own_lt hp j hj).1)⟩
  refine ((hr p hp').kept (fun k hk => hg.block k hk.2.1 hk.2.2.2)).mono (fun k hk => ⟨hk.1, by omega, hk.2.2.1, ?_⟩)
  rcases hat with e | ⟨j, e, hj⟩
  · rw [e]; exact hk.2.2.2
  · rw [e]; intro e0; injection e0 with e0; have := hk.2.1; omega
/-- One room more. -/
theorem EInv.room {v1' : Value} {r : ClassD} {q : ClassA} {C : Nat} (h : EInv M w rs ps cs v1 v2 W) (hM : M < w.heap.size)
    (hr' : ClassIn W (fun k => C ≤ k ∧ k < W.heap.size) r q) (hC : w.heap.size ≤ C) (h1 : ∀ k, v1.ownBlock = some k → k < C) (h2 : ∀ k, v2.ownBlock = some k → k < C)
    {Lr : List (ClassD × ClassA)} (hL : Lr.map (·.1) = rs) (ho : W.ownsRow w.heap.size 33 9 v1 Lr.length (clsVals Lr)) (hr : ∀ p ∈ Lr, ClassIn W (fun k => w.heap.size ≤ k ∧ k < W.heap.size ∧ some k ≠ v1.ownBlock ∧ some k ≠ v2.ownBlock) p.1 p.2)
    (hown : W'.ownsRow w.heap.size 33 9 v1' (Lr.length + 1) (clsVals Lr ++ clsVs r q))
    (hg : W.grownBy W' v1.ownBlock) (hat : v1'.ownBlock = v1.ownBlock ∨ ∃ k, v1'.ownBlock = some k ∧ W.heap.size ≤ k) : EInv M w (rs ++ [r]) ps cs v1' v2 W' := by
  obtain ⟨_, hp, hk, hb⟩ := h
  have hs := hg.size
  have hbs := hb.size
  have e1 : some M ≠ v1.ownBlock := fun e => by have := (own_lt ho M e.symm).1; omega
  have hne : ∀ k, k < W.heap.size → some k ≠ v1.ownBlock → some k ≠ v1'.ownBlock := by
    intro k hk hne
    rcases hat with e | ⟨j, e, hj⟩
    · rw [e]; exact hne
    · rw [e]; intro e0; injection e0 with e0; omega
  refine ⟨⟨Lr ++ [(r, q)], by rw [List.map_append, hL]; rfl, ?_, fun p hp' => ?_⟩, World.ownsRow.kept hp hg (kinds_ne hp ho (by decide)), hk.kept hg e1, hb.andThen hg (fun j hj => .inl (own_lt ho j hj).1)⟩
  · rw [clsVals_app, List.length_append, List.length_singleton]
    simpa [clsVals] using hown
  · rcases List.mem_append.1 hp' with hp' | hp'
    · exact ((hr p hp').kept (fun k hk => hg.block k hk.2.1 hk.2.2.1)).mono (fun k hk => ⟨hk.1, by omega, hne k hk.2.1 hk.2.2.1, hk.2.2.2⟩)
    · rw [List.mem_singleton] at hp'
      subst hp'
      have k1 : ∀ k, C ≤ k → some k ≠ v1.ownBlock := fun k hk e => by have := h1 k e.symm; omega
      have k2 : ∀ k, C ≤ k → some k ≠ v2.ownBlock := fun k hk e => by have := h2 k e.symm; omega
      exact (hr'.kept (fun k hk => hg.block k hk.2 (k1 k hk.1))).mono (fun k hk => ⟨by omega, by omega, hne k hk.2 (k1 k hk.1), k2 k hk.1⟩)
end
theorem setF_code (d s b m n : Int) (K : Nat) (hK : 0 < K) (i : Nat) (x : Str) (r : ClassD) (hx : x.length < K) (hr : r.code.length < K) : (setF d s b m n i x r).1.code.length < K := by
  match i with
  | 0 => simp only [setF]; split <;> simp_all
  | 1 => simp only [setF]; split <;> exact hr
  | 2 => simp only [setF]; split <;> exact hr
  | 3 => exact hr
  | 4 => exact hr
  | 5 => exact hr
  | 6 => exact hr
  | 7 => exact hr
  | 8 => exact hr
  | j + 9 => exact hr
theorem efold_code (d s b m n : Int) (K : Nat) (hK : 0 < K) : ∀ (fs : List FieldD) (i : Nat) (r : ClassD), (∀ f ∈ fs, f.1.length < K) → r.code.length < K → (efold d s b m n fs i r).1.code.length < K
  | [], _, r, _, hr => hr
  | f :: fs, i, r, h, hr => by
    unfold efold
    have h1 := setF_code d s b m n K hK i f.1 r (h f (by simp)) hr
    split
    · exact h1
    · exact efold_code d s b m n K hK fs (i + 1) _ (fun g hg => h g (by simp [hg])) h1
theorem entryM_code (d s b m n : Int) (K : Nat) (hK : 0 < K) (fs : List FieldD) (h : ∀ f ∈ fs, f.1.length < K) : (entryM d s b m n fs).1.code.length < K := by
  unfold entryM
  split
  · exact hK
  · exact efold_code d s b m n K hK fs 0 zeroC h hK
theorem nine_new (w : World) (r : ClassD) (q : ClassA) : ∀ (j : Nat) (u : Value), (clsVs r q)[j]? = some u → (w.alloc (.cells #[.string (ba r.code), .string (ba r.course), .string (ba r.part), .int .i64 r.len, .slice q.aP r.pats.length q.cP, .int .i64 r.seats, .slice q.aF r.feats.length q.cF, .slice q.aS r.staff.length q.cS, .slice q.aT r.starts.length q.cT] 33)).cell? ((⟨w.heap.size, 0, none⟩ : Addr).add j) = some u := by
  intro j u h
  obtain ⟨k0, k1, k2, k3, k4, k5, k6, k7, k8⟩ := (BoxC.new w #[.string (ba r.code), .string (ba r.course), .string (ba r.part), .int .i64 r.len, .slice q.aP r.pats.length q.cP, .int .i64 r.seats, .slice q.aF r.feats.length q.cF, .slice q.aS r.staff.length q.cS, .slice q.aT r.starts.length q.cT]).cells
  rw [Addr.add_lit]
  match j, h with
  | 0, h => exact k0.trans h
  | 1, h => exact k1.trans h
  | 2, h => exact k2.trans h
  | 3, h => exact k3.trans h
  | 4, h => exact k4.trans h
  | 5, h => exact k5.trans h
  | 6, h => exact k6.trans h
  | 7, h => exact k7.trans h
  | 8, h => exact k8.trans h
  | j + 9, h => simp [clsVs] at h
/-- What reading entries leaves behind. -/
def EntsOut (M : Nat) (o : List ClassD × List ProbD) (w : World) (e : Ending) (w' : World) : Prop := ∃ v1 v2, e = .returned (.tuple #[v1, v2]) ∧ EInv M w o.1 o.2 (codesK o.1) v1 v2 w'
theorem grown_under {w w1 w2 : World} {M : Nat} (h : w.grownBy w1 (some M)) (hb : Below w1.heap.size w1 w2) : w.grownBy w2 (some M) :=
  h.andThen (below_grown hb (Nat.le_refl _)) (fun j hj => by cases hj)
structure CK (d s b m n : Int) (G N KB AB MB M : Nat) (w : World) : Prop where
  g : Box4 w G d s b m
  n : Box1 w N 3 (.int .i64 n)
  d : DistIn w KB AB MB M
  gm : G ≠ M
  nm : N ≠ M
  km : KB ≠ M
  am : AB ≠ M
  mm : MB ≠ M
theorem CK.grown {d s b m n : Int} {G N KB AB MB M : Nat} {w w' : World} (h : CK d s b m n G N KB AB MB M w) (hg : w.grownBy w' (some M)) : CK d s b m n G N KB AB MB M w' := by
  have kb : ∀ k, k < w.heap.size → k ≠ M → w'.heap[k]? = w.heap[k]? := fun k hk hn => hg.block k hk (fun e => hn (Option.some.inj e))
  have hgb := kb _ h.g.lt h.gm
  have hx := h.g
  have kc : ∀ o : Nat, w'.cell? ⟨G, o, none⟩ = w.cell? ⟨G, o, none⟩ := fun o => World.cell?_of_block (w := w) hgb
  exact ⟨⟨(kc 0).trans hx.c0, (kc 1).trans hx.c1, (kc 2).trans hx.c2, (kc 3).trans hx.c3, Nat.lt_of_lt_of_le hx.lt hg.size⟩, h.n.kept (kb _ h.n.lt h.nm),
    h.d.kept (fun k hk => by
      rcases hk with rfl | rfl | rfl
      · exact kb _ h.d.k.lt h.km
      · exact kb _ h.d.a.lt h.am
      · exact kb _ h.d.m.lt h.mm), h.gm, h.nm, h.km, h.am, h.mm⟩

end Go.Proofs.YtigdcgklpapfbaaGreatDoor.S10
