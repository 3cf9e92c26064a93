/-
  The walk of RequestsExact. Conditions: the requests and records lie in memory; the records' texts have at most 2097152 bytes; the variables hold what their .. Conditions: as stated.
-/
import Derived.Test.YtlgmanbilaminaaGreatDoorMN24
import Derived.Test.YtlgmanbilaminaaGreatDoorMN25
set_option linter.unusedVariables false
namespace Go.Proofs.YtlgmanbilaminaaGreatDoor.S12
open Go Go.Proofs Go.RowKit Go.Lib Go.Proofs.YtlgmanbilaminaaGreatDoor Go.Proofs.YtlgmanbilaminaaGreatDoor.S10
structure KXQ (w0 : World) (A1 A2 : Option Addr) (rows : List (List Str)) (A3 A4 : Option Addr) (cs : List ReqD) (v1 v2 : Value) (ps : List ProbD) (w : World) : Prop where
  b : Below w0.heap.size w0 w
  r1 : RowsIn w (fun k => k < w.heap.size) A1 rows
  r2 : RowsIn w (fun k => k < w.heap.size) A2 rows
  m1 : ReqsIn w (fun k => k < w.heap.size) A3 cs
  m2 : ReqsIn w (fun k => k < w.heap.size) A4 cs
  p1 : ∃ B, ProbsRow w B v1 ps
  p2 : ∃ B, ProbsRow w B v2 ps
theorem rows_next {w w' : World} {A : Option Addr} {l : List (List Str)} (h : RowsIn w (fun k => k < w.heap.size) A l) (hb : Below w.heap.size w w') : RowsIn w' (fun k => k < w'.heap.size) A l :=
  (h.kept (fun k hk => hb.block k hk)).mono (fun k hk => Nat.lt_of_lt_of_le hk hb.size)
theorem reqs_next {w w' : World} {A : Option Addr} {l : List ReqD} (h : ReqsIn w (fun k => k < w.heap.size) A l) (hb : Below w.heap.size w w') : ReqsIn w' (fun k => k < w'.heap.size) A l :=
  (h.below hb).mono (fun k hk => Nat.lt_of_lt_of_le hk hb.size)
theorem KXQ.next {w0 w w' : World} {A1 A2 A3 A4 : Option Addr} {rows : List (List Str)} {cs : List ReqD} {v1 v2 : Value} {ps : List ProbD} (h : KXQ w0 A1 A2 rows A3 A4 cs v1 v2 ps w) (k : Below w.heap.size w w') : KXQ w0 A1 A2 rows A3 A4 cs v1 v2 ps w' := by
  obtain ⟨b, r1, r2, m1, m2, ⟨B1, p1⟩, ⟨B2, p2⟩⟩ := h
  exact ⟨b.trans (k.mono b.size), rows_next r1 k, rows_next r2 k, reqs_next m1 k, reqs_next m2 k, ⟨B1, S3.row_under p1 k⟩, ⟨B2, S3.row_under p2 k⟩⟩
theorem writeQ_len (l : List ReqD) : (writeQ l).1.length ≤ l.length := by
  unfold writeQ
  split <;> simp
set_option maxHeartbeats 32000000 in
set_option maxRecDepth 100000 in
theorem exact_any (A : Option Addr) (l : List ReqD) (c : Nat) (Ax : Option Addr) (x : List RecD) (cx : Nat) (st : ByteArray) (w : World) (hE : S3.Env w)
    (hI : ReqsIn w (fun k => k < w.heap.size) A l) (hl : l.length ≤ 1099511627776) (hls : ∀ r ∈ l, r.s.length ≤ 9223372036854775807) (hli : ∀ r ∈ l, r.l.length ≤ 8796093022208) (hS : StableSaid (wantF l (lst st)).length)
    (hX : RecsIn w (fun k => k < w.heap.size) Ax x) (hx : x.length ≤ 1000000000) (hsz : ∀ r ∈ x, ∀ f ∈ r.2, f.1.length ≤ 2097152) :
    Calls Tryz.prog 3 #[.slice A l.length c, .slice Ax x.length cx, .string st] w fun e w' => e = .returned (.bool true) ∧ Below w.heap.size w w' := by
  have HCI := hid (fun W (hb : Below w.heap.size w W) => (hI.below hb).mono (P' := fun k => k < W.heap.size) (fun k hk => Nat.lt_of_lt_of_le hk hb.size))
  have HXI := hid (fun W (hb : Below w.heap.size w W) => (hX.below hb).mono (P' := fun k => k < W.heap.size) (fun k hk => Nat.lt_of_lt_of_le hk hb.size))
  have HE := hid (fun W (hb : Below w.heap.size w W) => hE.below hb)
  have cK := hid (fun w' (hb : Below w.heap.size w w') => awake_any w' (hE.below hb))
  have cK' := cK.out
  unfold Says at cK'
  have cK := hid cK'
  have HI0 := hid hI
  have HX0 := hid hX
  have HSZ := hid hsz
  have HL := hid hl
  have HXL := hid hx
  have HLS := hid hls
  have HLI := hid hli
  have HS := hid hS
  obtain ⟨NX, hNX⟩ : ∃ N, x.length = N := ⟨_, rfl⟩
  obtain ⟨NL, hNL⟩ : ∃ N, l.length = N := ⟨_, rfl⟩
  have HNX := hid hNX
  have HNL := hid hNL
  rw [hNX] at hx ⊢
  rw [hNL] at hl ⊢
  clear cK' hE hI hX hsz hls hli hS hNX hNL
  go_enter Tryz.func3, Tryz.ntmps3
  go_wp2
  go_loopw [7] (fun iv wr => ∃ i : Nat, iv = .int .i64 (i : Int) ∧ i ≤ NX ∧ wr = w) (fun iv _ => NX - (RowKit.intOf iv).toNat)
  case atStart => exact ⟨0, rfl, Nat.zero_le _, rfl⟩
  case round =>
    obtain ⟨i, rfl, hi, hwr⟩ := hrel
    have hwr := hwr.symm
    subst hwr
    by_cases hlt : i < NX
    · have hltz : (i : Int) < (NX : Int) := by omega
      have dk : decide (NX ≤ i) = false := decide_eq_false (by omega)
      have hil : i < x.length := by rw [HNX.out]; exact hlt
      obtain ⟨fb, fo, A', c', rfl, hfb, -, -, -, y0, y1⟩ := HX0.out.at_ hil
      obtain ⟨F, hF⟩ : ∃ F, x[i].2.length = F := ⟨_, rfl⟩
      rw [hF] at y1
      clear y0 hF hil
      by_cases h20 : 20 < F
      · have h20z : (20 : Int) < (F : Int) := by omega
        have d20 : decide ((20 : Int) < (F : Int)) = true := decide_eq_true h20z
        go_wp2_with fail
        refine (cK.out _ (Below.refl _ _)).mono ?_
        rintro e w2 ⟨rfl, hb2⟩
        have HB2 := hid hb2
        clear hb2
        go_wp2
        go_ret
        exact ⟨rfl, HB2.out⟩
      · have h20z : ¬ (20 : Int) < (F : Int) := by omega
        have d20 : decide ((20 : Int) < (F : Int)) = false := decide_eq_false h20z
        go_wp2
        go_roundw
        case rel => exact ⟨i + 1, by go_num, by omega, by first | rfl | trivial⟩
        case measure => simp [RowKit.intOf]; omega
    · have hltz : ¬ (i : Int) < (NX : Int) := by omega
      have cW := qwrite_any A l c w (HI0.out) (HE.out _ (Below.refl _ _))
      unfold WriteOut at cW
      have cRW := fun W hb => qrwrite_any A l c W (HCI.out W hb)
      unfold WriteOut at cRW
      have cRD := fun W hb => qread_any Ax x cx W (HXI.out W hb) (by have := HXL.out; omega) (fun r hr f hf => by have := HSZ.out r hr f hf; omega) (HE.out W hb)
      unfold ReadOut at cRD
      have cRR := fun W hb => qrread_any Ax x cx W (HXI.out W hb) (by have := HXL.out; omega) HSZ.out
      unfold ReadOut at cRR
      have cV := fun W hb => qvalid_any A l c W (HCI.out W hb) (HE.out W hb)
      have cRV := fun W hb => qrvalid_any A l c W (HCI.out W hb)
      unfold Says at cV cRV
      have cST := fun W hb => students_any A l c W (HCI.out W hb) (by have := HL.out; omega) (fun r hr => by have := HLS.out r hr; unfold maxLen; omega)
      have cRS := fun W hb => rstudents_any A l c W (HCI.out W hb) HL.out HLS.out
      unfold S3.RowOut at cST cRS
      have cWA := fun W hb => wanted_any A l c st W (HCI.out W hb) HL.out HLI.out HS.out
      unfold WantOut at cWA
      have cRA := fun W hb => rwanted_any A l c st W (HCI.out W hb) HL.out
      have hsl := studM_len l
      have hwl : (wantM l (lst st)).length ≤ l.length := by rw [wantM_len]; exact List.length_filter_le _ _
      obtain ⟨SS, hSS⟩ : ∃ S, studM l = S := ⟨_, rfl⟩
      obtain ⟨WW, hWW⟩ : ∃ S, wantM l (lst st) = S := ⟨_, rfl⟩
      rw [hSS] at hsl
      rw [hWW] at hwl
      simp only [hSS] at cST cRS
      simp only [hWW] at cWA cRA
      have hrn := writeQ_len l
      have hps := recsM_probs x
      obtain ⟨⟨rows, e1⟩, hwu⟩ : ∃ S, writeQ l = S := ⟨_, rfl⟩
      obtain ⟨⟨cs, ps⟩, hru⟩ : ∃ S, recsM x = S := ⟨_, rfl⟩
      obtain ⟨R, hR⟩ : ∃ R, validQ l = R := ⟨_, rfl⟩
      have hcl := (recsM_few x).1
      rw [hwu] at cW hrn
      dsimp only at hrn
      simp only [hwu] at cRW
      simp only [hru] at cRD cRR
      rw [hru] at hps hcl
      dsimp only at hps hcl
      simp only [hR] at cV cRV
      rw [HNX.out] at hps
      simp only [HNX.out] at cRD cRR
      rw [HNL.out] at cW
      simp only [HNL.out] at cRW cV cRV cST cRS cWA cRA
      have CST := hid cST
      have CRS := hid cRS
      have CWA := hid cWA
      have CRA := hid cRA
      have HSL : Hid (SS.length ≤ 9223372036854775807) := hid (by have := HL.out; omega)
      have HWL : Hid (WW.length ≤ 9223372036854775807) := hid (by have := HL.out; omega)
      have CW := hid cW
      have CRW := hid cRW
      have CRD := hid cRD
      have CRR := hid cRR
      have CV := hid cV
      have CRV := hid cRV
      have HPS := hid hps
      have HRN : Hid (rows.length ≤ 9223372036854775807) := hid (by have := HL.out; omega)
      have HCL := hid hcl
      clear cW cRW cRD cRR cV cRV cST cRS cWA cRA hwu hru hR hps hcl hrn hSS hWW hsl hwl
      go_wp2_with fail
      refine CW.out.mono ?_
      rintro e w1 ⟨⟨v1, L1, hL1, rfl, hrr1⟩, hb1⟩
      obtain ⟨A1, c1, rfl, _, _, hri1⟩ := hrr1.rowsIn
      have hl1 : L1.length = rows.length := by rw [← hL1, List.length_map]
      rw [hL1] at hri1
      try dsimp only at hri1 hl1
      rw [hl1]
      have HR1 : Hid (RowsIn w1 (fun k => k < w1.heap.size) A1 rows) := hid (hri1.mono (fun k hk => hk.2))
      have HB1 := hid hb1
      clear hrr1 hri1 hb1 hL1 hl1 CW
      go_wp2_with fail
      refine (CRW.out w1 HB1.out).mono ?_
      rintro e w2 ⟨⟨v2, L2, hL2, rfl, hrr2⟩, hb2⟩
      obtain ⟨A2, c2, rfl, _, _, hri2⟩ := hrr2.rowsIn
      have hl2 : L2.length = rows.length := by rw [← hL2, List.length_map]
      rw [hL2] at hri2
      try dsimp only at hri2 hl2
      rw [hl2]
      have HR2 : Hid (RowsIn w2 (fun k => k < w2.heap.size) A2 rows) := hid (hri2.mono (fun k hk => hk.2))
      have HR1' := hid (rows_next HR1.out hb2)
      have HB2 := hid (HB1.out.trans (hb2.mono HB1.out.size))
      clear hrr2 hri2 hb2 hL2 hl2 CRW HR1 HB1
      go_wp2_with fail
      refine (CRD.out w2 HB2.out).mono ?_
      rintro e w3 ⟨v3, v4, rfl, hrm3, hpr3, hb3⟩
      obtain ⟨A3, c3, rfl, _, _, hin3⟩ := hrm3.reqsIn
      have HM3 : Hid (ReqsIn w3 (fun k => k < w3.heap.size) A3 cs) := hid (hin3.mono (fun k hk => by rcases hk with h | h; exact h.2; exact h.2))
      have HP3 := hid hpr3
      have HR13 := hid (rows_next HR1'.out hb3)
      have HR23 := hid (rows_next HR2.out hb3)
      have HB3 := hid (HB2.out.trans (hb3.mono HB2.out.size))
      clear hrm3 hpr3 hb3 hin3 CRD HR1' HR2 HB2
      go_wp2_with fail
      refine (CRR.out w3 HB3.out).mono ?_
      rintro e w4 ⟨v5, v6, rfl, hrm4, hpr4, hb4⟩
      obtain ⟨A4, c4, rfl, _, _, hin4⟩ := hrm4.reqsIn
      have HK4 : Hid (KXQ w A1 A2 rows A3 A4 cs v4 v6 ps w4) := hid ⟨HB3.out.trans (hb4.mono HB3.out.size), rows_next HR13.out hb4, rows_next HR23.out hb4, reqs_next HM3.out hb4, hin4.mono (fun k hk => by rcases hk with h | h; exact h.2; exact h.2), ⟨_, S3.row_under HP3.out hb4⟩, ⟨_, hpr4⟩⟩
      clear hrm4 hpr4 hb4 hin4 CRR HR13 HR23 HM3 HP3 HB3
      obtain ⟨NR, hNR⟩ : ∃ N, rows.length = N := ⟨_, rfl⟩
      obtain ⟨NM, hNM⟩ : ∃ N, cs.length = N := ⟨_, rfl⟩
      have HNR := hid hNR
      have HNM := hid hNM
      rw [hNR, hNM]
      clear hNR hNM
      go_wp2_with fail
      refine (cK.out _ HK4.out.b).mono ?_
      rintro e w5 ⟨rfl, hb5⟩
      have HK5 := hid (HK4.out.next hb5)
      clear hb5 HK4
      go_wp2_with fail
      refine (CV.out _ HK5.out.b).mono ?_
      rintro e w6 ⟨rfl, hb6⟩
      have HK6 := hid (HK5.out.next hb6)
      clear hb6 HK5
      go_wp2_with fail
      refine (CRV.out _ HK6.out.b).mono ?_
      rintro e w7 ⟨rfl, hb7⟩
      have HK7 := hid (HK6.out.next hb7)
      clear hb7 HK6
      have cSL := sameLists_any A1 A2 rows rows c1 c2 _ _ w7 HK7.out.r1 HK7.out.r2 HRN.out
      rw [decide_eq_true rfl, HNR.out] at cSL
      have CSL := hid cSL
      clear cSL
      go_wp2_with fail
      refine CSL.out.mono ?_
      rintro e w8 ⟨rfl, q8, hq8⟩
      have HK8 : Hid (KXQ w A1 A2 rows A3 A4 cs v4 v6 ps w8) := hid (by rw [hq8]; exact HK7.out.next (S3.below_drewN (Below.refl _ _) q8))
      clear hq8 HK7 CSL
      have cSM := qsame_any A3 A4 cs c3 c4 _ _ w8 HK8.out.m1 HK8.out.m2 (by have := HCL.out; omega)
      rw [HNM.out] at cSM
      have CSM := hid cSM
      clear cSM
      go_wp2_with fail
      refine CSM.out.mono ?_
      rintro e w9 ⟨rfl, q9, hq9⟩
      have HK9 : Hid (KXQ w A1 A2 rows A3 A4 cs v4 v6 ps w9) := hid (by rw [hq9]; exact HK8.out.next (S3.below_drewN (Below.refl _ _) q9))
      clear hq9 HK8 CSM
      obtain ⟨BP1, hp1⟩ := HK9.out.p1
      obtain ⟨BP2, hp2⟩ := HK9.out.p2
      have CSP := hid (sameProbs_any v4 v6 ps BP1 BP2 w9 hp1 hp2 (by have := HPS.out; omega))
      clear hp1 hp2
      go_wp2_with fail
      refine CSP.out.mono ?_
      rintro e wA ⟨rfl, qA, hqA⟩
      have HKA : Hid (KXQ w A1 A2 rows A3 A4 cs v4 v6 ps wA) := hid (by rw [hqA]; exact HK9.out.next (S3.below_drewN (Below.refl _ _) qA))
      clear hqA HK9 CSP
      go_wp2_with fail
      refine (CST.out _ HKA.out.b).mono ?_
      rintro e wB ⟨⟨vs, rfl, hrs⟩, hbB⟩
      obtain ⟨As, cs1, rfl, _, _, hs1⟩ := S3.StrRow.strsIn hrs
      have HKB := hid (HKA.out.next hbB)
      have HS1 : Hid (S3.StrsIn wB (fun k => k < wB.heap.size) As SS) := hid (hs1.mono (fun k hk => hk.2))
      clear hrs hs1 hbB HKA CST
      go_wp2_with fail
      refine (CRS.out _ HKB.out.b).mono ?_
      rintro e wC ⟨⟨vt, rfl, hrt⟩, hbC⟩
      obtain ⟨At, cs2, rfl, _, _, hs2⟩ := S3.StrRow.strsIn hrt
      have HKC := hid (HKB.out.next hbC)
      have hs1 := (HS1.out.kept (fun k hk => hbC.block k hk)).mono (P' := fun k => k < wC.heap.size) (fun k hk => Nat.lt_of_lt_of_le hk hbC.size)
      have cSS := S3.sameStrings_any As At SS SS cs1 cs2 _ _ wC hs1 hs2 HSL.out
      rw [decide_eq_true rfl] at cSS
      have CSS := hid cSS
      clear hrt hs2 hs1 hbC HKB HS1 CRS cSS
      go_wp2_with fail
      refine CSS.out.mono ?_
      rintro e wD ⟨rfl, qD, hqD⟩
      have HKD : Hid (KXQ w A1 A2 rows A3 A4 cs v4 v6 ps wD) := hid (by rw [hqD]; exact HKC.out.next (S3.below_drewN (Below.refl _ _) qD))
      clear hqD HKC CSS
      go_wp2_with fail
      refine (CWA.out _ HKD.out.b).mono ?_
      rintro e wE ⟨⟨vw, rfl, hrw⟩, hbE⟩
      obtain ⟨Aw, cw1, rfl, _, _, hw1⟩ := hrw.reqsIn
      have HKE := hid (HKD.out.next hbE)
      have HW1 : Hid (ReqsIn wE (fun k => k < wE.heap.size) Aw WW) := hid (hw1.mono (fun k hk => by rcases hk with h | h; exact h.2; exact h.2))
      clear hrw hw1 hbE HKD CWA
      go_wp2_with fail
      refine (CRA.out _ HKE.out.b).mono ?_
      rintro e wF ⟨⟨vx, rfl, hrx⟩, hbF⟩
      obtain ⟨Ay, cw2, rfl, _, _, hw2⟩ := hrx.reqsIn
      have HKF := hid (HKE.out.next hbF)
      have hw1 := reqs_next HW1.out hbF
      have cSW := qsame_any Aw Ay WW cw1 cw2 _ _ wF hw1 hw2 HWL.out
      have CSW := hid cSW
      clear hrx hw2 hw1 hbF HKE HW1 CRA cSW
      go_wp2_with fail
      refine CSW.out.mono ?_
      rintro e wG ⟨rfl, qG, hqG⟩
      have HKG : Hid (KXQ w A1 A2 rows A3 A4 cs v4 v6 ps wG) := hid (by rw [hqG]; exact HKF.out.next (S3.below_drewN (Below.refl _ _) qG))
      clear hqG HKF CSW
      go_wp2
      go_ret
      exact ⟨rfl, HKG.out.b⟩
end Go.Proofs.YtlgmanbilaminaaGreatDoor.S12
namespace Go.Proofs.YtlgmanbilaminaaGreatDoor.S11
open Go Go.Proofs Go.RowKit Go.Lib Go.Proofs.YtlgmanbilaminaaGreatDoor Go.Proofs.YtlgmanbilaminaaGreatDoor.S10
theorem own_kept {w w' : World} {B : Nat} {e : TypeId} {z n : Nat} {v : Value} {xs : List Value} (h : w.ownsRow B e z v n xs) (hk : ∀ b, v.ownBlock = some b → w'.heap[b]? = w.heap[b]?) : w'.ownsRow B e z v n xs := by
  obtain ⟨h1, h2⟩ := h
  refine ⟨h1, ?_⟩
  rcases h2 with h2 | ⟨g, cap, cur, hv, hB, hg, r⟩
  · exact .inl h2
  · exact .inr ⟨g, cap, cur, hv, hB, (hk g (by rw [hv]; rfl)).trans hg, r⟩
theorem RowsF.kept {w w' : World} {B : Nat} {v : Value} {L : List RowA} (h : RowsF w B v L) (hk : ∀ b, B ≤ b → b < w.heap.size → w'.heap[b]? = w.heap[b]?) (hz : w.heap.size ≤ w'.heap.size) : RowsF w' B v L := by
  refine ⟨⟨own_kept h.1.1 (fun b hb => by have := World.ownsRow.lt h.1.1 b hb; exact hk b this.1 this.2), fun p hp => ?_⟩, fun p hp hne b off hA j => ?_⟩
  · obtain ⟨f1, f2, f3⟩ := h.1.2 p hp
    exact ⟨(f1.kept (fun b hb => hk b hb.1 hb.2.1)).mono (fun b hb => ⟨hb.1, by omega, hb.2.2⟩), f2, f3⟩
  · obtain ⟨b', off', hA', ⟨k1, k2, k3⟩, hf, _⟩ := h.at_ hp hne
    rw [hA] at hA'
    injection hA' with hA'
    injection hA' with e1 e2
    subst e1
    exact (World.frozen?_of_block (a := ⟨b, j, none⟩) (hk b k1 k2)).trans (hf j)
theorem strs_store {w : World} {P : Nat → Prop} {A : Option Addr} {l : List Str} (h : S3.StrsIn w P A l) (b o : Nat) (X : Str) : ∃ l' : List Str, l'.length = l.length ∧ (∀ x ∈ l', x ∈ l ∨ x = X) ∧ S3.StrsIn (w.setCell ⟨b, o, none⟩ (.string (ba X))) P A l' := by
  rcases h with rfl | ⟨b', off', rfl, hP, hc⟩
  · exact ⟨[], rfl, fun x hx => by simp at hx, .inl rfl⟩
  · refine ⟨l.mapIdx (fun i s => if b' = b ∧ off' + i = o then X else s), by simp, fun x hx => ?_, .inr ⟨b', off', rfl, hP, fun j s hj => ?_⟩⟩
    · obtain ⟨i, hi, rfl⟩ := List.mem_mapIdx.1 hx
      split
      · exact .inr rfl
      · exact .inl (List.getElem_mem hi)
    · rw [List.getElem?_mapIdx] at hj
      obtain ⟨s0, hs0, rfl⟩ := Option.map_eq_some_iff.1 hj
      have hcj := hc j s0 hs0
      by_cases e : b' = b ∧ off' + j = o
      · obtain ⟨rfl, rfl⟩ := e
        rw [if_pos ⟨rfl, rfl⟩]
        exact World.cell?_setCell_same' w ⟨b', off' + j, none⟩ _ (by rw [hcj]; rfl)
      · rw [if_neg e]
        refine Eq.trans ?_ hcj
        apply World.cell?_setCell_other
        intro e2
        injection e2 with e3 e4
        exact e ⟨e3.symm, e4.symm⟩
theorem rows_store {w w' : World} {P : Nat → Prop} (X : Str) (hw : ∀ A l, S3.StrsIn w P A l → ∃ l' : List Str, l'.length = l.length ∧ (∀ x ∈ l', x ∈ l ∨ x = X) ∧ S3.StrsIn w' P A l') : ∀ L : List RowA, (∀ p ∈ L, S3.StrsIn w P p.2.1 p.1) →
    ∃ L' : List RowA, L'.length = L.length ∧ L'.map rowV = L.map rowV ∧ ∀ p ∈ L', ∃ q ∈ L, p.2 = q.2 ∧ p.1.length = q.1.length ∧ (∀ x ∈ p.1, x ∈ q.1 ∨ x = X) ∧ S3.StrsIn w' P p.2.1 p.1
  | [], _ => ⟨[], rfl, rfl, fun p hp => by simp at hp⟩
  | q :: r, h => by
    obtain ⟨L', h1, h2, h3⟩ := rows_store X hw r (fun p hp => h p (by simp [hp]))
    obtain ⟨l', k1, k2, k3⟩ := hw _ _ (h q (by simp))
    refine ⟨(l', q.2) :: L', by simp [h1], ?_, fun p hp => ?_⟩
    · rw [List.map_cons, List.map_cons, h2]
      congr 1
      unfold rowV
      rw [k1]
    · rcases List.mem_cons.1 hp with rfl | hp
      · exact ⟨q, by simp, rfl, k1, k2, k3⟩
      · obtain ⟨q', hq', r⟩ := h3 p hp
        exact ⟨q', by simp [hq'], r⟩
structure MS (w5 : World) (g c : Nat) (A : Option Addr) (L : List Int) (vf : Value) (Lf : List RowA) (w : World) : Prop where
  e : ∃ k, DE w5 g c A L k w
  f : RowsF w w5.heap.size vf Lf
  s : ∀ p ∈ Lf, p.1.length = 2 ∧ ∀ x ∈ p.1, x.length ≤ 2000
  g0 : g < w5.heap.size
section
variable {w5 w w' : World} {g c : Nat} {A : Option Addr} {L : List Int} {vf vf' : Value} {Lf : List RowA}
theorem MS.played {k' : Nat} (h : MS w5 g c A L vf Lf w) (he : DE w g c A L k' w') : MS w5 g c A L vf Lf w' := by
  obtain ⟨k, h0⟩ := h.e
  have hg := h.g0
  exact ⟨⟨k', h0.trans he⟩, h.f.kept (fun b h1 h2 => he.p.block b h2 (by omega)) he.p.size, h.s, hg⟩
theorem MS.next (h : MS w5 g c A L vf Lf w) (k : Below w.heap.size w w') : MS w5 g c A L vf Lf w' := by
  obtain ⟨j, h0⟩ := h.e
  exact ⟨⟨j, h0.below (k.mono h0.p.size) h.g0⟩, h.f.kept (fun b h1 h2 => k.block b h2) k.size, h.s, h.g0⟩
theorem MS.dice (h : MS w5 g c A L vf Lf w) : ∃ k, DiceAt w g A L c k := by
  obtain ⟨k, h0⟩ := h.e
  exact ⟨k, h0.d⟩
theorem MS.store {p : RowA} {b off : Nat} (h : MS w5 g c A L vf Lf w) (hp : p ∈ Lf) (hA : p.2.1 = some ⟨b, off, none⟩) (o : Nat) (X : Str) (hX : X.length ≤ 2000) :
    ∃ Lf', Lf'.length = Lf.length ∧ MS w5 g c A L vf Lf' (w.setCell ⟨b, o, none⟩ (.string (ba X))) := by
  obtain ⟨j, h0⟩ := h.e
  have hg := h.g0
  obtain ⟨b', off', hA', ⟨k1, k2, k3⟩, _, _⟩ := h.f.at_ hp (fun e => by have := (h.s p hp).1; rw [e] at this; simp at this)
  rw [hA] at hA'
  injection hA' with hA'
  injection hA' with e1 e2
  subst e1
  have hz : (w.setCell ⟨b, o, none⟩ (.string (ba X))).heap.size = w.heap.size := by simp [World.setCell]
  obtain ⟨L', l1, l2, l3⟩ := rows_store (P := fun x => w5.heap.size ≤ x ∧ x < w.heap.size ∧ vf.ownBlock ≠ some x) X (fun A l hs => strs_store hs b o X) Lf (fun p hp => (h.f.1.2 p hp).1)
  refine ⟨L', l1, ⟨j, h0.set _ _ _ k1 (by omega)⟩, ⟨⟨?_, fun q hq => ?_⟩, fun q hq hne b2 off2 hA2 j2 => ?_⟩, fun q hq => ?_, hg⟩
  · rw [l1, l2]
    exact own_kept h.f.1.1 (fun x hx => Below.heap_setCell w ⟨b, o, none⟩ _ x (fun e => k3 (by rw [hx]; exact congrArg some e)))
  · obtain ⟨q0, hq0, m1, m2, m3, m4⟩ := l3 q hq
    obtain ⟨_, f2, f3⟩ := h.f.1.2 q0 hq0
    exact ⟨m4.mono (fun x hx => ⟨hx.1, by rw [hz]; exact hx.2.1, hx.2.2⟩), by rw [m2, m1]; exact f2, by rw [m1]; exact f3⟩
  · obtain ⟨q0, hq0, m1, m2, m3, m4⟩ := l3 q hq
    rw [World.frozen?_setCell]
    exact h.f.2 q0 hq0 (fun e => hne (List.eq_nil_of_length_eq_zero (by rw [m2, e]; rfl))) b2 off2 (by rw [← m1]; exact hA2) j2
  · obtain ⟨q0, hq0, m1, m2, m3, m4⟩ := l3 q hq
    refine ⟨m2.trans (h.s q0 hq0).1, fun x hx => ?_⟩
    rcases m3 x hx with hx | rfl
    · exact (h.s q0 hq0).2 x hx
    · exact hX
end
structure MT (w5 : World) (g c : Nat) (A : Option Addr) (L : List Int) (Af : Option Addr) (rows : List (List Str)) (w : World) : Prop where
  e : ∃ k, DE w5 g c A L k w
  f : RowsIn w (fun b => w5.heap.size ≤ b ∧ b < w.heap.size) Af rows
  s : ∀ r ∈ rows, r.length ≤ 2 ∧ ∀ x ∈ r, x.length ≤ 2000
  n : rows.length ≤ 1000
  g0 : g < w5.heap.size
section
variable {w5 w w' : World} {g c : Nat} {A Af : Option Addr} {L : List Int} {rows : List (List Str)}
end
theorem MS.toT {w5 w : World} {g c : Nat} {A : Option Addr} {L : List Int} {Af : Option Addr} {nf cf : Nat} {Lf : List RowA} (h : MS w5 g c A L (.slice Af nf cf) Lf w) (hn : Lf.length ≤ 100) : nf = Lf.length ∧ MT w5 g c A L Af (Lf.map (·.1)) w := by
  obtain ⟨A6, c6, hv, _, _, hri⟩ := h.f.1.rowsIn
  injection hv with e1 e2 e3
  subst e1
  exact ⟨e2, h.e, hri, fun r hr => by obtain ⟨p, hp, rfl⟩ := List.mem_map.1 hr; exact ⟨Nat.le_of_eq (h.s p hp).1, (h.s p hp).2⟩, by rw [List.length_map]; omega, h.g0⟩
end Go.Proofs.YtlgmanbilaminaaGreatDoor.S11
namespace Go.Proofs.YtlgmanbilaminaaGreatDoor.S12
open Go Go.Proofs Go.RowKit Go.Lib Go.Proofs.YtlgmanbilaminaaGreatDoor Go.Proofs.YtlgmanbilaminaaGreatDoor.S10 Go.Proofs.YtlgmanbilaminaaGreatDoor.S11
structure MS (w5 : World) (g c : Nat) (A : Option Addr) (L : List Int) (vf : Value) (Lf : List RowA) (w : World) : Prop where
  e : ∃ k, DE w5 g c A L k w
  f : RowsF w w5.heap.size vf Lf
  s : ∀ p ∈ Lf, p.1.length = 4 ∧ ∀ x ∈ p.1, x.length ≤ 2000
  g0 : g < w5.heap.size
section
variable {w5 w w' : World} {g c : Nat} {A : Option Addr} {L : List Int} {vf vf' : Value} {Lf : List RowA}
theorem MS.played {k' : Nat} (h : MS w5 g c A L vf Lf w) (he : DE w g c A L k' w') : MS w5 g c A L vf Lf w' := by
  obtain ⟨k, h0⟩ := h.e
  have hg := h.g0
  exact ⟨⟨k', h0.trans he⟩, h.f.kept (fun b h1 h2 => he.p.block b h2 (by omega)) he.p.size, h.s, hg⟩
theorem MS.next (h : MS w5 g c A L vf Lf w) (k : Below w.heap.size w w') : MS w5 g c A L vf Lf w' := by
  obtain ⟨j, h0⟩ := h.e
  exact ⟨⟨j, h0.below (k.mono h0.p.size) h.g0⟩, h.f.kept (fun b h1 h2 => k.block b h2) k.size, h.s, h.g0⟩
theorem MS.dice (h : MS w5 g c A L vf Lf w) : ∃ k, DiceAt w g A L c k := by
  obtain ⟨k, h0⟩ := h.e
  exact ⟨k, h0.d⟩
theorem MS.store {p : RowA} {b off : Nat} (h : MS w5 g c A L vf Lf w) (hp : p ∈ Lf) (hA : p.2.1 = some ⟨b, off, none⟩) (o : Nat) (X : Str) (hX : X.length ≤ 2000) :
    ∃ Lf', Lf'.length = Lf.length ∧ MS w5 g c A L vf Lf' (w.setCell ⟨b, o, none⟩ (.string (ba X))) := by
  obtain ⟨j, h0⟩ := h.e
  have hg := h.g0
  obtain ⟨b', off', hA', ⟨k1, k2, k3⟩, _, _⟩ := h.f.at_ hp (fun e => by have := (h.s p hp).1; rw [e] at this; simp at this)
  rw [hA] at hA'
  injection hA' with hA'
  injection hA' with e1 e2
  subst e1
  have hz : (w.setCell ⟨b, o, none⟩ (.string (ba X))).heap.size = w.heap.size := by simp [World.setCell]
  obtain ⟨L', l1, l2, l3⟩ := rows_store (P := fun x => w5.heap.size ≤ x ∧ x < w.heap.size ∧ vf.ownBlock ≠ some x) X (fun A l hs => strs_store hs b o X) Lf (fun p hp => (h.f.1.2 p hp).1)
  refine ⟨L', l1, ⟨j, h0.set _ _ _ k1 (by omega)⟩, ⟨⟨?_, fun q hq => ?_⟩, fun q hq hne b2 off2 hA2 j2 => ?_⟩, fun q hq => ?_, hg⟩
  · rw [l1, l2]
    exact own_kept h.f.1.1 (fun x hx => Below.heap_setCell w ⟨b, o, none⟩ _ x (fun e => k3 (by rw [hx]; exact congrArg some e)))
  · obtain ⟨q0, hq0, m1, m2, m3, m4⟩ := l3 q hq
    obtain ⟨_, f2, f3⟩ := h.f.1.2 q0 hq0
    exact ⟨m4.mono (fun x hx => ⟨hx.1, by rw [hz]; exact hx.2.1, hx.2.2⟩), by rw [m2, m1]; exact f2, by rw [m1]; exact f3⟩
  · obtain ⟨q0, hq0, m1, m2, m3, m4⟩ := l3 q hq
    rw [World.frozen?_setCell]
    exact h.f.2 q0 hq0 (fun e => hne (List.eq_nil_of_length_eq_zero (by rw [m2, e]; rfl))) b2 off2 (by rw [← m1]; exact hA2) j2
  · obtain ⟨q0, hq0, m1, m2, m3, m4⟩ := l3 q hq
    refine ⟨m2.trans (h.s q0 hq0).1, fun x hx => ?_⟩
    rcases m3 x hx with hx | rfl
    · exact (h.s q0 hq0).2 x hx
    · exact hX
end
structure MT (w5 : World) (g c : Nat) (A : Option Addr) (L : List Int) (Af : Option Addr) (rows : List (List Str)) (w : World) : Prop where
  e : ∃ k, DE w5 g c A L k w
  f : RowsIn w (fun b => w5.heap.size ≤ b ∧ b < w.heap.size) Af rows
  s : ∀ r ∈ rows, r.length ≤ 4 ∧ ∀ x ∈ r, x.length ≤ 2000
  n : rows.length ≤ 1000
  g0 : g < w5.heap.size
section
variable {w5 w w' : World} {g c : Nat} {A Af : Option Addr} {L : List Int} {rows : List (List Str)}
end
theorem MS.toT {w5 w : World} {g c : Nat} {A : Option Addr} {L : List Int} {Af : Option Addr} {nf cf : Nat} {Lf : List RowA} (h : MS w5 g c A L (.slice Af nf cf) Lf w) (hn : Lf.length ≤ 100) : nf = Lf.length ∧ MT w5 g c A L Af (Lf.map (·.1)) w := by
  obtain ⟨A6, c6, hv, _, _, hri⟩ := h.f.1.rowsIn
  injection hv with e1 e2 e3
  subst e1
  exact ⟨e2, h.e, hri, fun r hr => by obtain ⟨p, hp, rfl⟩ := List.mem_map.1 hr; exact ⟨Nat.le_of_eq (h.s p hp).1, (h.s p hp).2⟩, by rw [List.length_map]; omega, h.g0⟩
theorem own_set {w : World} {B : Nat} {e : TypeId} {size n cap g : Nat} {xs : List Value} (h : w.ownsRow B e size (.slice (some ⟨g, 0, none⟩) n cap) n xs) (hn : 0 < n) (i : Nat) (u : Value) : (w.setCell ⟨g, i, none⟩ u).ownsRow B e size (.slice (some ⟨g, 0, none⟩) n cap) n (xs.set i u) := by
  obtain ⟨h1, h2⟩ := h
  refine ⟨by rw [List.length_set]; exact h1, ?_⟩
  rcases h2 with ⟨h2, _⟩ | ⟨g', cap', cur, hv, hB, hg, k1, k2, k3, k4⟩
  · injection h2 with h2; injection h2
  · injection hv with hv _ hc
    injection hv with hv
    injection hv with hv
    subst hv hc
    refine .inr ⟨g, cap, _, rfl, hB, heap_setCell_same w g i _ _ _ hg, k1, k2, by simpa using k3, ?_⟩
    rw [Array.toList_setIfInBounds, List.take_set, k4]
theorem reqVals_set : ∀ (LL : List ReqP2) (k : Nat) (h : k < LL.length) (j : Nat) (hj : j < 4) (u : Value) (p' : ReqP2) (hp : reqVs p'.1 p'.2 = (reqVs LL[k].1 LL[k].2).set j u), (reqVals LL).set (k * 4 + j) u = reqVals (LL.set k p')
  | p :: r, 0, _, j, hj, u, p', hp => by
    have e : ∀ q : ReqP2, reqVals (q :: r) = reqVs q.1 q.2 ++ reqVals r := fun q => by unfold reqVals; rw [List.flatMap_cons]
    rw [Nat.zero_mul, Nat.zero_add, List.set_cons_zero, e, e, List.set_append_left _ _ (by show j < 4; exact hj), hp]
    rfl
  | p :: r, k + 1, h, j, hj, u, p', hp => by
    have ih := reqVals_set r k (by simpa using h) j hj u p' hp
    have e : ∀ (q : ReqP2) (r : List ReqP2), reqVals (q :: r) = reqVs q.1 q.2 ++ reqVals r := fun q r => by unfold reqVals; rw [List.flatMap_cons]
    have hl : (reqVs p.1 p.2).length = 4 := rfl
    rw [List.set_cons_succ, e, e, List.set_append_right _ _ (by rw [hl]; omega), hl, show (k + 1) * 4 + j - 4 = k * 4 + j by omega, ih]
structure OS (w0 : World) (g c : Nat) (A : Option Addr) (L : List Int) (LL : List (ReqD × ReqA)) (v : Value) (w : World) : Prop where
  e : ∃ k, DE w0 g c A L k w
  row : w.ownsRow w0.heap.size 61 4 v LL.length (reqVals LL)
  r : ∀ p ∈ LL, ReqIn w (fun k => g < k ∧ k < w.heap.size ∧ some k ≠ v.ownBlock) p.1 p.2
  g0 : g < w0.heap.size
section
variable {w0 w w' : World} {g c : Nat} {A : Option Addr} {L : List Int} {LL : List (ReqD × ReqA)} {v v' : Value}
theorem OS.played {k' : Nat} (h : OS w0 g c A L LL v w) (he : DE w g c A L k' w') : OS w0 g c A L LL v w' := by
  obtain ⟨k, h0⟩ := h.e
  have hg := h.g0
  have hz := he.p.size
  exact ⟨⟨k', h0.trans he⟩, he.p.row h.row (fun k hk => by have h1 := World.ownsRow.lt h.row k hk; omega), fun p hp => ((h.r p hp).kept (fun k hk => he.p.block k hk.2.1 (by omega))).mono (fun k hk => ⟨hk.1, by omega, hk.2.2⟩), hg⟩
theorem OS.next (h : OS w0 g c A L LL v w) (k : Below w.heap.size w w') : OS w0 g c A L LL v w' := by
  obtain ⟨j, h0⟩ := h.e
  have hg := h.g0
  have hz := k.size
  have hp0 := h0.p.size
  exact ⟨⟨j, h0.below (k.mono hp0) hg⟩, S3.row_under h.row k, fun p hp => ((h.r p hp).kept (fun i hi => k.block i hi.2.1)).mono (fun i hi => ⟨hi.1, by omega, hi.2.2⟩), hg⟩
theorem OS.dice (h : OS w0 g c A L LL v w) : ∃ k, DiceAt w g A L c k := by
  obtain ⟨k, h0⟩ := h.e
  exact ⟨k, h0.d⟩
end
def OddP (g c : Nat) (A : Option Addr) (L : List Int) (w0 : World) (e : Ending) (w' : World) : Prop :=
  ∃ (ls : List ReqD) (A' : Option Addr) (c' : Nat), e = .returned (.slice A' ls.length c') ∧ (ls.length ≤ 19 ∧ ∀ r ∈ ls, r.s.length ≤ 20 ∧ r.l.length ≤ 20) ∧ ReqsIn w' (fun k => g < k ∧ k < w'.heap.size) A' ls ∧ ∃ k', DE w0 g c A L k' w'
theorem OS.fin {w0 w : World} {g c : Nat} {A : Option Addr} {L : List Int} {LL : List (ReqD × ReqA)} {v : Value} (h : OS w0 g c A L LL v w) (hl : LL.length ≤ 19) (hb : ∀ p ∈ LL, p.1.s.length ≤ 20 ∧ p.1.l.length ≤ 20) : OddP g c A L w0 (.returned v) w := by
  have hg := h.g0
  have hrow : ReqRow w w0.heap.size (fun k => g < k ∧ k < w.heap.size) v (LL.map (·.1)) := ⟨LL, rfl, by rw [List.length_map]; exact h.row, fun p hp => (h.r p hp).mono (fun k hk => ⟨hk.1, hk.2.1⟩)⟩
  obtain ⟨A', c', rfl, _, _, hin⟩ := hrow.reqsIn
  exact ⟨LL.map (·.1), A', c', rfl, ⟨by rw [List.length_map]; exact hl, fun r hr => by obtain ⟨p, hp, rfl⟩ := List.mem_map.1 hr; exact hb p hp⟩, hin.mono (fun k hk => by rcases hk with h | h; exact h; exact ⟨by omega, h.2⟩), h.e⟩
theorem OS.copy {w w' : World} {g c k : Nat} {A : Option Addr} {L : List Int} {LL : List (ReqD × ReqA)} {v' : Value} (h : DiceAt w g A L c k) (hr : ∀ p ∈ LL, ReqIn w (fun k => g < k ∧ k < w.heap.size) p.1 p.2)
    (hown : w'.ownsRow w.heap.size 61 4 v' LL.length (reqVals LL)) (hg : w.grownBy w' none) : OS w g c A L LL v' w' := by
  have hb : Below w.heap.size w w' := (Below.refl _ w).grown hg (Nat.le_refl _) (fun k hk => by cases hk)
  have hz := hb.size
  exact ⟨⟨k, (DE.first h).below hb h.lt⟩, hown, fun p hp => ((hr p hp).kept (fun k hk => hb.block k hk.2)).mono (fun k hk => ⟨hk.1, by omega, fun e => by have := World.ownsRow.lt hown k e.symm; omega⟩), h.lt⟩
theorem OS.store {w0 w : World} {g c gv n cap : Nat} {A : Option Addr} {L : List Int} {LL LL' : List (ReqD × ReqA)} {i : Nat} {u : Value} (h : OS w0 g c A L LL (.slice (some ⟨gv, 0, none⟩) n cap) w) (hn : n = LL.length) (hn0 : 0 < n) (hLL : (reqVals LL).set i u = reqVals LL') (hl : LL'.length = LL.length)
    (hr : ∀ p ∈ LL', p ∈ LL ∨ ReqIn w (fun k => g < k ∧ k < w.heap.size ∧ k ≠ gv) p.1 p.2) : OS w0 g c A L LL' (.slice (some ⟨gv, 0, none⟩) n cap) (w.setCell ⟨gv, i, none⟩ u) := by
  obtain ⟨j, h0⟩ := h.e
  have hg := h.g0
  have hlt := World.ownsRow.lt h.row gv rfl
  have hs : (w.setCell ⟨gv, i, none⟩ u).heap.size = w.heap.size := by simp [World.setCell]
  refine ⟨⟨j, h0.set _ _ _ hlt.1 (by omega)⟩, ?_, fun p hp => ?_, hg⟩
  · rw [hl, ← hLL]
    have h1 := h.row
    rw [← hn] at h1 ⊢
    exact own_set h1 hn0 i u
  · have h1 : ReqIn w (fun k => g < k ∧ k < w.heap.size ∧ k ≠ gv) p.1 p.2 := by
      rcases hr p hp with h1 | h1
      · exact (h.r p h1).mono (fun k hk => ⟨hk.1, hk.2.1, fun e => hk.2.2 (by rw [e]; rfl)⟩)
      · exact h1
    exact (h1.kept (fun k hk => Below.heap_setCell w ⟨gv, i, none⟩ u k hk.2.2)).mono (fun k hk => ⟨hk.1, by rw [hs]; exact hk.2.1, fun e => hk.2.2 (by injection e)⟩)
theorem OS.app {w0 w w' : World} {g c : Nat} {A : Option Addr} {L : List Int} {LL : List (ReqD × ReqA)} {v v' : Value} {p : ReqD × ReqA} (h : OS w0 g c A L LL v w) (hp : p ∈ LL)
    (hown : w'.ownsRow w0.heap.size 61 4 v' (LL.length + 1) (reqVals LL ++ reqVs p.1 p.2)) (hg : w.grownBy w' v.ownBlock) (hat : v'.ownBlock = v.ownBlock ∨ v'.ownBlock = some w.heap.size) : OS w0 g c A L (LL ++ [p]) v' w' := by
  obtain ⟨j, h0⟩ := h.e
  have hg0 := h.g0
  have hp0 := h0.p.size
  have hs := hg.size
  have hb : Below w0.heap.size w w' := (Below.refl _ w).grown hg hp0 (fun k hk => (World.ownsRow.lt h.row k hk).1)
  have hne : ∀ k, k < w.heap.size → some k ≠ v.ownBlock → some k ≠ v'.ownBlock := by
    intro k hk hne
    rcases hat with e | e
    · rw [e]; exact hne
    · rw [e]; intro e0; injection e0 with e0; omega
  have hq : ∀ p ∈ LL, ReqIn w' (fun k => g < k ∧ k < w'.heap.size ∧ some k ≠ v'.ownBlock) p.1 p.2 := fun p hp => ((h.r p hp).kept (fun k hk => hg.block k hk.2.1 hk.2.2)).mono (fun k hk => ⟨hk.1, by omega, hne k hk.2.1 hk.2.2⟩)
  refine ⟨⟨j, h0.below hb hg0⟩, ?_, fun x hx => ?_, hg0⟩
  · rw [reqVals_app, List.length_append, List.length_singleton]
    simpa [reqVals] using hown
  · rcases List.mem_append.1 hx with hx | hx
    · exact hq x hx
    · rw [List.mem_singleton] at hx; subst hx; exact hq _ hp
theorem wpList_append_noneQ {P : Program} {w : World} {ops : Array Oper} {rest : List Oper} {o : Oper} {a : Act} {Q : Exit → Act → World → Prop} (hgd : o.guard = none) (s x : Operand) (t : TypeId)
    (ho : o.op = .call { callee := .builtin .append, args := #[s, x], argTypes := #[t, t] })
    (base : Nat) (e : TypeId) (i : TypeInfo) (size : Nat) (ht : P.underlying t = some (.slice e)) (hi : P.info? e = some i)
    (v : Value) (n : Nat) (xs : List Value) (hs : a.eval s = v) (hown : w.ownsRow base e size v n xs) (hx : a.eval x = .slice none 0 0)
    (h : wpList P ops Q rest (a.put o.dst v) w) : wpList P ops Q (o :: rest) a w := by
  refine wpList_plain hgd fun K hK => ?_
  have hr := run_append_owned_none (P := P) (w := w) base t o.type e i size ht hi v n xs hown
  unfold Oper.wp execOp
  simp only [ho, resolve, invoke, builtin, Sem.run_bind, Sem.run_pure, Result.andThen_ok, List.map_toArray, List.map_cons, List.map_nil, hs, hx, hr]
  exact hK _ _ h
def oddI (r : Nat) : Int := if r = 0 then 0 else if r = 1 then 9 else 10
theorem odd_ints (w : World) {r : Nat} (hr : r < 3) : (w.alloc (.cells #[.int .i64 0, .int .i64 9, .int .i64 10] 3)).cell? ⟨w.heap.size, r, none⟩ = some (.int .i64 (oddI r)) := by
  rw [Lib.cell_of_heap (heap_alloc_new w _)]
  rcases (show r = 0 ∨ r = 1 ∨ r = 2 by omega) with rfl | rfl | rfl <;> rfl
theorem one_name (w : World) (P : Nat → Prop) (hP : P w.heap.size) (s : Str) : S3.StrsIn (w.alloc (.cells #[.string (ba s)] 9)) P (some ⟨w.heap.size, 0, none⟩) [s] := by
  have e := heap_alloc_new w (.cells #[.string (ba s)] 9)
  refine .inr ⟨w.heap.size, 0, rfl, hP, fun j t hj => ?_⟩
  match j, hj with
  | 0, hj => obtain rfl : s = t := by simpa using hj
             rw [Lib.cell_of_heap e]; rfl
  | j + 1, hj => simp at hj
set_option maxHeartbeats 16000000 in
set_option maxRecDepth 100000 in
theorem oddReq_any (g c k B : Nat) (A : Option Addr) (L : List Int) (LL : List (ReqD × ReqA)) (v : Value) (w : World) (h : DiceAt w g A L c k)
    (hrow : w.ownsRow B 61 4 v LL.length (reqVals LL)) (hB : g < B) (hr : ∀ p ∈ LL, ReqIn w (fun k => g < k ∧ k < w.heap.size) p.1 p.2) (hlen : LL.length ≤ 15) (hsm : ∀ p ∈ LL, p.1.s.length ≤ 20 ∧ p.1.l.length ≤ 20) :
    Calls Tryz.prog 30 #[.pointer (some ⟨g, 0, none⟩), v] w (OddP g c A L w) := by
  obtain ⟨i5, hi5, hz5, hsi5, hby5⟩ := info_parts infoReq
  have HN : Hid (∀ (W : World) (q : Int), 1 ≤ q → q ≤ 4294967296 → (∃ k, DiceAt W g A L c k) → Calls Tryz.prog 28 #[.pointer (some ⟨g, 0, none⟩), .int .i64 q] W fun e w' => ∃ r : Nat, e = .returned (.int .i64 (r : Int)) ∧ (r : Int) < q ∧ ∃ k', DE W g c A L k' w') := hid (fun W q hq hq2 ⟨k, hd⟩ => by
    refine (next_any g c k A L q hq2 W hd).mono ?_
    rintro e w' ⟨⟨r, rfl, hr⟩, ⟨k', hd'⟩, hR⟩
    obtain ⟨hr0, hr1⟩ := hr hq
    obtain ⟨q0, rfl⟩ : ∃ q : Nat, r = (q : Int) := ⟨r.toNat, by omega⟩
    exact ⟨q0, rfl, hr1, k', (DE.first hd).next hd' hR⟩)
  have hgl := h.lt
  rcases Nat.eq_zero_or_pos LL.length with h0 | h0
  · obtain rfl : LL = [] := List.eq_nil_of_length_eq_zero h0
    have hv : v = .slice none 0 0 ∨ ∃ gv cap, v = .slice (some ⟨gv, 0, none⟩) 0 cap := by
      rcases hrow.2 with ⟨hv, _⟩ | ⟨gv, cap, cur, hv, _⟩
      · exact .inl hv
      · exact .inr ⟨gv, cap, hv⟩
    have HD := hid h
    clear h hrow hr h0 hlen hsm
    have fin : ∀ (W : World) (r k' : Nat), DE w g c A L k' W → OddP g c A L w (.returned (.slice (some ⟨W.heap.size, 0, none⟩) 1 1)) (W.alloc (.cells #[.string ⟨#[115]⟩, .string ⟨#[120]⟩, .int .i64 (r : Int), .slice none 0 0] 61)) := fun W r k' he => by
      have hb2 := Box4.new W (.string ⟨#[115]⟩) (.string ⟨#[120]⟩) (.int .i64 (r : Int)) (.slice none 0 0)
      obtain ⟨b0, b1, b2, b3⟩ := hb2.cells
      have hz := he.p.size
      refine ⟨[⟨[115], [120], (r : Int), []⟩], some ⟨W.heap.size, 0, none⟩, 1, rfl, ⟨by simp, fun x hx => by rw [List.mem_singleton] at hx; subst hx; simp⟩, .inr ⟨W.heap.size, 0, rfl, ⟨by omega, hb2.lt⟩, fun j x hj => ?_⟩, k', he.alloc _⟩
      match j, hj with
      | 0, hj =>
        obtain rfl : (⟨[115], [120], (r : Int), []⟩ : ReqD) = x := by simpa using hj
        refine ⟨(none, 0), ⟨.inl rfl, Nat.le_refl _, by show (0 : Nat) ≤ _; omega⟩, fun i v hv => ?_⟩
        match i, hv with
        | 0, hv => simp [reqVs] at hv; subst hv; exact b0
        | 1, hv => simp [reqVs] at hv; subst hv; exact b1
        | 2, hv => simp [reqVs] at hv; subst hv; exact b2
        | 3, hv => simp [reqVs] at hv; subst hv; exact b3
        | i + 4, hv => simp [reqVs] at hv
      | j + 1, hj => simp at hj
    have FIN := hid fin
    clear fin
    rcases hv with rfl | ⟨gv, cap, rfl⟩
    · go_enter Tryz.func30, Tryz.ntmps30
      go_wp2_with (at_builtin; refine wpList_append_noneQ rfl _ _ 22 rfl w.heap.size 61 i5 4 Tryz.underlying22 hi5 (.slice none 0 0) 0 [] rfl (World.ownsRow_nil _ _ _ _) rfl ?_)
      go_wp2_with fail
      refine (HN.out _ 11 (by omega) (by omega) ⟨_, HD.out⟩).mono ?_
      rintro e w2 ⟨r, rfl, hr3, k2, he2⟩
      have HR := hid (FIN.out w2 r _ he2)
      clear he2
      go_wp2
      go_ret
      exact HR.out
    · go_enter Tryz.func30, Tryz.ntmps30
      go_wp2_with fail
      refine (HN.out _ 11 (by omega) (by omega) ⟨_, HD.out⟩).mono ?_
      rintro e w2 ⟨r, rfl, hr3, k2, he2⟩
      have HR := hid (FIN.out w2 r _ he2)
      clear he2
      go_wp2
      go_ret
      exact HR.out
  · obtain ⟨gv, cap, rfl, hBg, hgs⟩ := World.ownsRow.form hrow h0
    have HCV := hid (hrow.cells (g := gv) rfl)
    obtain ⟨n, hn⟩ : ∃ n, LL.length = n := ⟨_, rfl⟩
    have HCP := hid (fun (v' : Value) (w' : World) (hown : w'.ownsRow w.heap.size 61 4 v' LL.length (reqVals LL)) (hg : w.grownBy w' none) => OS.copy h hr hown hg)
    rw [hn] at HCP h0 hlen ⊢
    have HLL := hid hn
    have HSM := hid hsm
    have HM1 : Hid (0 + n ≤ maxLen) := hid (by unfold maxLen; omega)
    have HM2 : Hid ((0 + n) * 64 ≤ 140737488355328) := hid (by omega)
    have HM3 : Hid (n + 1 ≤ maxLen) := hid (by unfold maxLen; omega)
    have HM4 : Hid ((n + 1) * 64 ≤ 140737488355328) := hid (by omega)
    have HVL : Hid ((reqVals LL).length = n * 4) := hid (by rw [reqVals_len, hn])
    clear h hrow hr hn hsm
    go_enter Tryz.func30, Tryz.ntmps30
    go_wp2_with (at_builtin; refine wpList_append_own_at _ rfl _ _ 22 rfl w.heap.size 61 i5 (.agg #[.string ⟨#[]⟩, .string ⟨#[]⟩, .int .i64 0, .slice none 0 0]) 4 64 Tryz.underlying22 hi5 hz5 hsi5 hby5 rfl (by decide) (.slice none 0 0) 0 [] rfl (World.ownsRow_nil _ _ _ _) ⟨gv, 0, none⟩ n cap (reqVals LL) rfl HVL.out HCV.out (reqVals_one LL) HM1.out HM2.out (Nat.le_refl _) ?_)
    intro v' w1 hown hgrow hnil hat
    obtain ⟨g1, cap1, rfl, hg1w, hg1s⟩ := World.ownsRow.form hown h0
    have HOS := hid (HCP.out _ _ hown hgrow)
    clear hown hgrow hnil hat HCP HCV HM1 HM2 HVL
    have hne : ((n : Int) == 0) = false := by simp; omega
    go_wp2_with fail
    refine (HN.out _ (n : Int) (by omega) (by omega) HOS.out.dice).mono ?_
    rintro e w2 ⟨k1, rfl, hk1, kk2, he2⟩
    have HOS2 := hid (HOS.out.played he2)
    clear he2 HOS
    have hk1n : k1 < n := by omega
    go_wp2_with fail
    refine (HN.out _ 5 (by omega) (by omega) HOS2.out.dice).mono ?_
    rintro e w3 ⟨r, rfl, hr3, kk3, he3⟩
    have HOS3 := hid (HOS2.out.played he3)
    clear he3 HOS2
    have hkl : k1 < LL.length := by rw [HLL.out]; exact hk1n
    have hrow3 := HOS3.out.row
    rw [HLL.out] at hrow3
    have hf0 := own_free hrow3 (k1 * 4)
    have hf1 := own_free hrow3 (k1 * 4 + 1)
    have hf2 := own_free hrow3 (k1 * 4 + 2)
    have hf3 := own_free hrow3 (k1 * 4 + 3)
    have hc0 := hrow3.cells (g := g1) rfl (k1 * 4) _ (reqVals_get LL k1 _ (List.getElem?_eq_getElem hkl) 0 _ rfl)
    have hc1 := hrow3.cells (g := g1) rfl (k1 * 4 + 1) _ (reqVals_get LL k1 _ (List.getElem?_eq_getElem hkl) 1 _ rfl)
    have hc2 := hrow3.cells (g := g1) rfl (k1 * 4 + 2) _ (reqVals_get LL k1 _ (List.getElem?_eq_getElem hkl) 2 _ rfl)
    have hc3 := hrow3.cells (g := g1) rfl (k1 * 4 + 3) _ (reqVals_get LL k1 _ (List.getElem?_eq_getElem hkl) 3 _ rfl)
    rw [Addr.add_lit, Nat.zero_add] at hc0 hc1 hc2 hc3
    have HROW := hid hrow3
    have hkeep : ∀ (W : World) (hO : OS w g c A L LL (.slice (some ⟨g1, 0, none⟩) n cap1) W) (x : ReqD), x.l = LL[k1].1.l → ∀ p ∈ LL.set k1 (x, LL[k1].2), p ∈ LL ∨ ReqIn W (fun k => g < k ∧ k < W.heap.size ∧ k ≠ g1) p.1 p.2 := fun W hO x hx p hp => by
      rcases List.mem_or_eq_of_mem_set hp with h | rfl
      · exact .inl h
      · have h1 := hO.r _ (List.getElem_mem hkl)
        exact .inr ⟨by rw [hx]; exact (h1.mono (fun k hk => ⟨hk.1, hk.2.1, fun e => hk.2.2 (by rw [e]; rfl)⟩)).t, by rw [hx]; exact h1.t1, h1.t2⟩
    have hsmk : ∀ (x : ReqP2), x.1.s.length ≤ 20 → x.1.l.length ≤ 20 → ∀ p ∈ LL.set k1 x, p.1.s.length ≤ 20 ∧ p.1.l.length ≤ 20 := fun x h1 h2 p hp => by
      rcases List.mem_or_eq_of_mem_set hp with h | rfl
      · exact HSM.out p h
      · exact ⟨h1, h2⟩
    have hsk := HSM.out _ (List.getElem_mem hkl)
    have HKEEP := hid hkeep
    have HSMK := hid hsmk
    have HSK := hid hsk
    clear hrow3 hkeep hsmk hsk
    rcases (show r = 0 ∨ r = 1 ∨ r = 2 ∨ r = 3 ∨ r = 4 by omega) with rfl | rfl | rfl | rfl | rfl
    · have HF : Hid (OddP g c A L w (.returned (.slice (some ⟨g1, 0, none⟩) n cap1)) (w3.setCell ⟨g1, k1 * 4, none⟩ (.string ⟨#[]⟩))) := hid (OS.fin (OS.store HOS3.out HLL.out.symm h0 (reqVals_set LL k1 hkl 0 (by omega) (.string (ba [])) (⟨[], LL[k1].1.c, LL[k1].1.p, LL[k1].1.l⟩, LL[k1].2) rfl) (by simp) (HKEEP.out w3 HOS3.out _ rfl)) (by rw [List.length_set, HLL.out]; omega) (HSMK.out _ (by simp) HSK.out.2))
      go_wp2
      go_ret
      exact HF.out
    · have hb1 := (Below.refl w3.heap.size w3).alloc (Nat.le_refl _) (.cells #[.int .i64 0, .int .i64 9, .int .i64 10] 3)
      have HOI := hid (HOS3.out.next hb1)
      have HOC := hid (fun r (hr : r < 3) => odd_ints w3 hr)
      have hgw := HOS3.out.g0
      have hzw : w.heap.size ≤ w3.heap.size := by obtain ⟨_, h0⟩ := HOS3.out.e; exact h0.p.size
      have HSW : Hid ((w3.alloc (.cells #[.int .i64 0, .int .i64 9, .int .i64 10] 3)).heap.size = w3.heap.size + 1) := hid (by simp)
      clear hb1 HROW HOS3 hf0 hf1 hf2 hf3 hc0 hc1 hc2 hc3
      go_wp2_with fail
      generalize w3.alloc (.cells #[.int .i64 0, .int .i64 9, .int .i64 10] 3) = w4 at HOI HOC HSW ⊢
      refine (HN.out _ 3 (by omega) (by omega) HOI.out.dice).mono ?_
      rintro e w5 ⟨r, rfl, hr3, kk5, he5⟩
      have hr3n : r < 3 := by omega
      have hci : w5.cell? ⟨w3.heap.size, r, none⟩ = some (.int .i64 (oddI r)) := (World.cell?_of_block (w := w4) (he5.p.block _ (by show w3.heap.size < _; have := HSW.out; omega) (by show w3.heap.size ≠ g; omega))).trans (HOC.out r hr3n)
      have HO5 := hid (HOI.out.played he5)
      have hrow5 := HO5.out.row
      rw [HLL.out] at hrow5
      have hf2 := own_free hrow5 (k1 * 4 + 2)
      have hc2 := hrow5.cells (g := g1) rfl (k1 * 4 + 2) _ (reqVals_get LL k1 _ (List.getElem?_eq_getElem hkl) 2 _ rfl)
      rw [Addr.add_lit, Nat.zero_add] at hc2
      obtain ⟨I, hI⟩ : ∃ I, oddI r = I := ⟨_, rfl⟩
      rw [hI] at hci
      have HF : Hid (OddP g c A L w (.returned (.slice (some ⟨g1, 0, none⟩) n cap1)) (w5.setCell ⟨g1, k1 * 4 + 2, none⟩ (.int .i64 I))) := hid (OS.fin (OS.store HO5.out HLL.out.symm h0 (reqVals_set LL k1 hkl 2 (by omega) (.int .i64 I) (⟨LL[k1].1.s, LL[k1].1.c, I, LL[k1].1.l⟩, LL[k1].2) rfl) (by simp) (HKEEP.out w5 HO5.out _ rfl)) (by rw [List.length_set, HLL.out]; omega) (HSMK.out _ HSK.out.1 HSK.out.2))
      clear he5 hrow5 hI HOI HOC
      go_wp2
      go_ret
      exact HF.out
    · obtain ⟨C, hC⟩ : ∃ C, ba LL[k1].1.c = C := ⟨_, rfl⟩
      rw [hC] at hc1
      have hts := fun P hP => one_name w3 P hP LL[k1].1.c
      rw [hC] at hts
      obtain ⟨W, hW⟩ : ∃ W, w3.alloc (.cells #[.string C] 9) = W := ⟨_, rfl⟩
      have hzW : W.heap.size = w3.heap.size + 1 := by rw [← hW]; simp
      rw [hW] at hts
      have HOW : Hid (OS w g c A L LL (.slice (some ⟨g1, 0, none⟩) n cap1) W) := hid (by rw [← hW]; exact HOS3.out.next ((Below.refl _ w3).alloc (Nat.le_refl _) _))
      have hg4 := (World.ownsRow.lt HOS3.out.row g1 rfl)
      have hgg := HOS3.out.g0
      have hrowW := HOW.out.row
      rw [HLL.out] at hrowW
      have hf3 := own_free hrowW (k1 * 4 + 3)
      have hc3 := hrowW.cells (g := g1) rfl (k1 * 4 + 3) _ (reqVals_get LL k1 _ (List.getElem?_eq_getElem hkl) 3 _ rfl)
      rw [Addr.add_lit, Nat.zero_add] at hc3
      have HF : Hid (OddP g c A L w (.returned (.slice (some ⟨g1, 0, none⟩) n cap1)) (W.setCell ⟨g1, k1 * 4 + 3, none⟩ (.slice (some ⟨w3.heap.size, 0, none⟩) 1 1))) := hid (OS.fin (OS.store HOW.out HLL.out.symm h0 (reqVals_set LL k1 hkl 3 (by omega) (.slice (some ⟨w3.heap.size, 0, none⟩) 1 1) (⟨LL[k1].1.s, LL[k1].1.c, LL[k1].1.p, [LL[k1].1.c]⟩, (some ⟨w3.heap.size, 0, none⟩, 1)) rfl) (by simp) (fun p hp => by
        rcases List.mem_or_eq_of_mem_set hp with h | rfl
        · exact .inl h
        · exact .inr ⟨hts _ ⟨by omega, by omega, by omega⟩, Nat.le_refl _, by show (1 : Nat) ≤ _; omega⟩)) (by rw [List.length_set, HLL.out]; omega) (HSMK.out _ HSK.out.1 (by simp)))
      clear hts hrowW HOW HROW hf0 hf1 hf2 hc0 hc2 hC
      have hgl1 : g1 < w3.heap.size := hg4.2
      clear HOS3
      go_wp2_with fail
      (try rw [hW])
      go_wp2
      go_ret
      exact HF.out
    · have HF : Hid (OddP g c A L w (.returned (.slice (some ⟨g1, 0, none⟩) n cap1)) (w3.setCell ⟨g1, k1 * 4 + 1, none⟩ (.string ⟨#[110, 111, 110, 101]⟩))) := hid (OS.fin (OS.store HOS3.out HLL.out.symm h0 (reqVals_set LL k1 hkl 1 (by omega) (.string (ba [110, 111, 110, 101])) (⟨LL[k1].1.s, [110, 111, 110, 101], LL[k1].1.p, LL[k1].1.l⟩, LL[k1].2) rfl) (by simp) (HKEEP.out w3 HOS3.out _ rfl)) (by rw [List.length_set, HLL.out]; omega) (HSMK.out _ HSK.out.1 HSK.out.2))
      go_wp2
      go_ret
      exact HF.out
    · obtain ⟨p, hp⟩ : ∃ p, LL[k1] = p := ⟨_, rfl⟩
      have hpm : p ∈ LL := by rw [← hp]; exact List.getElem_mem hkl
      rw [hp] at hc0 hc1 hc2 hc3
      have hpc : Hid (∀ (j : Nat) (u : Value), [Value.string (ba p.1.s), .string (ba p.1.c), .int .i64 p.1.p, .slice p.2.1 p.1.l.length p.2.2][j]? = some u → (w3.alloc (.cells #[.string (ba p.1.s), .string (ba p.1.c), .int .i64 p.1.p, .slice p.2.1 p.1.l.length p.2.2] 61)).cell? ((⟨w3.heap.size, 0, none⟩ : Addr).add j) = some u) := hid (four_cellsQ w3 _ _ _ _)
      have HZ : Hid (w.heap.size ≤ (w3.alloc (.cells #[.string (ba p.1.s), .string (ba p.1.c), .int .i64 p.1.p, .slice p.2.1 p.1.l.length p.2.2] 61)).heap.size) := hid (by obtain ⟨_, h0⟩ := HOS3.out.e; have := h0.p.size; simp; omega)
      have HON := hid (req_one p.1 p.2)
      have HOW := hid (HOS3.out.next ((Below.refl _ w3).alloc (Nat.le_refl _) (.cells #[.string (ba p.1.s), .string (ba p.1.c), .int .i64 p.1.p, .slice p.2.1 p.1.l.length p.2.2] 61)))
      have hrowW := HOW.out.row
      rw [HLL.out] at hrowW
      have HRW := hid hrowW
      clear hrowW
      go_wp2_with (at_builtin; refine wpList_append_own_at _ rfl _ _ 22 rfl w.heap.size 61 i5 (.agg #[.string ⟨#[]⟩, .string ⟨#[]⟩, .int .i64 0, .slice none 0 0]) 4 64 Tryz.underlying22 hi5 hz5 hsi5 hby5 rfl (by decide) (.slice (some ⟨g1, 0, none⟩) n cap1) n (reqVals LL) rfl HRW.out ⟨w3.heap.size, 0, none⟩ 1 1 [Value.string (ba p.1.s), .string (ba p.1.c), .int .i64 p.1.p, .slice p.2.1 p.1.l.length p.2.2] rfl rfl hpc.out HON.out HM3.out HM4.out HZ.out ?_)
      intro v' w5 hown hgrow hnil hat
      have HF : Hid (OddP g c A L w (.returned v') w5) := hid (OS.fin (OS.app HOW.out hpm (by rw [HLL.out]; exact hown) hgrow (by simpa using hat)) (by simp; have := HLL.out; omega) (fun x hx => by
        rcases List.mem_append.1 hx with h | h
        · exact HSM.out x h
        · rw [List.mem_singleton] at h
          subst h
          exact HSM.out _ hpm))
      clear hown hgrow hnil hat HRW HOW HOS3 HROW
      go_wp2
      go_ret
      exact HF.out
end Go.Proofs.YtlgmanbilaminaaGreatDoor.S12
