/-
  Lists of requests: acceptor, Check of package entries, Valid of requests. Conditions: the requests lie in memory. Entries out of records: the program's Read of .. Conditions: as stated.
-/
import Derived.Test.YtlgmanbilaminaaGreatDoorMN20
import Derived.Test.YtlgmanbilaminaaGreatDoorMN21
set_option linter.unusedVariables false
namespace Go.Proofs.YtlgmanbilaminaaGreatDoor.S12
open Go Go.Proofs Go.RowKit Go.Lib Go.Proofs.YtlgmanbilaminaaGreatDoor
def AcceptorOut (w : World) (e : Ending) (w' : World) : Prop := ∃ c : Cap, e = .returned c.fn ∧ CapIn w' c ∧ Acc w' c [] ∧ w.heap.size ≤ c.M ∧ w.heap.size ≤ c.N ∧ Below w.heap.size w w'
set_option maxHeartbeats 4000000 in
set_option maxRecDepth 100000 in
theorem acceptor_any (w : World) : Calls Tryz.prog 40 #[] w (AcceptorOut w) := by
  have hmm := @run_makeMap Tryz.prog
  go_enter Tryz.func40, Tryz.ntmps40
  go_wp2_with fail
  have e1 := KStud.made w
  have b1 := (Below.refl w.heap.size w).alloc (Nat.le_refl _) (.map #[] 0)
  have s1 : (w.alloc (.map #[] 0)).heap.size = w.heap.size + 1 := by simp
  generalize w.alloc (.map #[] 0) = w1 at e1 b1 s1 ⊢
  have e2 := Box1.new w1 81 (.map (some w.heap.size))
  have b2 := (Below.refl w1.heap.size w1).alloc (Nat.le_refl _) (.cells #[.map (some w.heap.size)] 81)
  have s2 : (w1.alloc (.cells #[.map (some w.heap.size)] 81)).heap.size = w.heap.size + 1 + 1 := by simp [s1]
  rw [s1] at e2
  generalize w1.alloc (.cells #[.map (some w.heap.size)] 81) = w2 at e2 b2 s2 ⊢
  have k2 := e1.below b2
  have E2 := hid e2
  have K2 := hid k2
  have B2 := hid (b1.trans (b2.mono (by omega)))
  have S2 := hid s2
  clear e1 b1 s1 e2 b2 s2 k2
  refine (distinct_any w2).mono ?_
  rintro e w3 ⟨KB, AB, MB, M, rfl, hD, hM, q1, q2, q3, q4, b3, q5, q6, q7⟩
  have HD := hid hD
  have HM := hid hM
  have HB3 := hid b3
  clear hD hM b3
  have hsf := fun (w : World) (a : Addr) f x c => run_store Tryz.prog w a (.func f x c) .plain rfl
  go_wp2
  go_ret
  clear hsf
  have s2 := S2.out
  have l3 := HB3.out.size
  have bx := (Below.refl w3.heap.size w3).alloc (Nat.le_refl _) (.cells #[.func (.func 92) #[] #[.pointer (some ⟨KB, 0, none⟩), .pointer (some ⟨AB, 0, none⟩), .pointer (some ⟨MB, 0, none⟩)]] 71)
  have ex := Box1.new w3 71 (.func (.func 92) #[] #[.pointer (some ⟨KB, 0, none⟩), .pointer (some ⟨AB, 0, none⟩), .pointer (some ⟨MB, 0, none⟩)])
  have lk := HD.out.k.lt
  have la := HD.out.a.lt
  have lm := HD.out.m.lt
  have lM := HM.out.lt
  refine ⟨⟨w.heap.size + 1, w3.heap.size, KB, AB, MB, M, w.heap.size⟩, rfl, ⟨HD.out.next bx, (E2.out.next HB3.out).next bx, ex, ?_⟩, ⟨HM.out.below bx, (K2.out.below HB3.out).below bx⟩, ?_, Nat.le_refl _, ?_⟩
  · dsimp only
    refine ⟨?_, q2, q3, q4, ?_, ?_, ?_, ?_, ?_, ?_, ?_⟩ <;> omega
  · dsimp only; omega
  · exact B2.out.trans ((HB3.out.mono (by omega)).trans (bx.mono (by omega)))
set_option maxHeartbeats 16000000 in
set_option maxRecDepth 100000 in
theorem qchk_any (A : Option Addr) (l : List ReqD) (c : Nat) (cp : Cap) (B : Nat) (w : World) (h : ReqsIn w (fun k => k < B) A l) (hB1 : B ≤ cp.M) (hB2 : B ≤ cp.N) (hBw : B ≤ w.heap.size) (hEn : ∀ W, Gr2 cp.M cp.N w W → S3.Env W) (hC : CapIn w cp) (hA : Acc w cp []) :
    Calls Tryz.prog 42 #[.slice A l.length c, .int .i64 400, .func (.func 43) #[] #[], cp.fn] w
      fun e w' => e = .returned (.int .i64 (validQ l)) ∧ Gr2 cp.M cp.N w w' := by
  have eg1 : ∀ args w, (callFunc 43 args).run Tryz.prog w = .ok (.enter 43 args) w := enters_of Tryz.func43 (by kernel_rfl) rfl
  have eg2 : ∀ args w, (callFunc 69 args).run Tryz.prog w = .ok (.enter 69 args) w := enters_of Tryz.func69 (by kernel_rfl) rfl
  obtain ⟨R, hR⟩ : ∃ R, validQ l = R := ⟨_, rfl⟩
  rw [hR]
  unfold validQ at hR
  obtain ⟨NB, hNB⟩ : ∃ x, cp.NB = x := ⟨_, rfl⟩
  obtain ⟨WB, hWB⟩ : ∃ x, cp.WB = x := ⟨_, rfl⟩
  have hfn : cp.fn = .func (.func 69) #[] #[.pointer (some ⟨NB, 0, none⟩), .pointer (some ⟨WB, 0, none⟩)] := by rw [← hNB, ← hWB]; rfl
  rw [hfn]
  by_cases h32 : 400 < l.length
  · rw [if_pos h32] at hR
    subst hR
    have hz : (400 : Int) < (l.length : Int) := by omega
    clear hC hA h hEn h32 hNB hWB hfn
    go_enter Tryz.func42, Tryz.ntmps42
    go_wp2
    go_ret
    exact ⟨rfl, Gr2.refl _ _ _⟩
  · rw [if_neg h32] at hR
    have hz : ¬ (400 : Int) < (l.length : Int) := by omega
    have HR : Hid (goQ (l.take 0) (l.drop 0) = R) := hid hR
    have hENV := hid hEn
    have HA := hid hA
    have HC := hid hC
    have HH := hid h
    have HL4 := hid h32
    have HNB := hid hNB
    have HWB := hid hWB
    have HBW := hid hBw
    have HB1 := hid hB1
    have HB2 := hid hB2
    clear hR hC hA h hEn h32 hNB hWB hfn hBw hB1 hB2
    go_enter Tryz.func42, Tryz.ntmps42
    go_wp2
    go_loopw [10, 11, 12, 19] (fun _ _ _ iv wr => ∃ i : Nat, iv = .int .i64 (i : Int) ∧ i ≤ l.length ∧ Hid (goQ (l.take i) (l.drop i) = R) ∧ Hid (Acc wr cp (l.take i)) ∧ Hid (Few (l.take i)) ∧ Hid (Gr2 cp.M cp.N w wr)) (fun _ _ _ iv _ => l.length - (RowKit.intOf iv).toNat)
    case atStart => exact ⟨0, rfl, Nat.zero_le _, HR, hid HA.out, hid ⟨by simp, by simp [studs]⟩, hid (Gr2.refl _ _ _)⟩
    case round =>
      obtain ⟨i, rfl, hi, hE, hS, hF, hK⟩ := hrel
      by_cases hlt : i < l.length
      · have hltz : (i : Int) < (l.length : Int) := by omega
        have hst := goQ_step l i hlt
        rw [hE.out] at hst
        have hCr := HC.out.kept hK.out
        obtain ⟨fb, fo, q, rfl, hfb, hri, y0, y1, y2, y3⟩ := (HH.out.kept (fun k hk => hK.out.block k (Nat.lt_of_lt_of_le hk HBW.out) (by have := HB1.out; omega) (by have := HB2.out; omega))).at_ hlt
        have hBr : B ≤ wr.heap.size := Nat.le_trans HBW.out hK.out.size
        have hadd : preA (l.take i) l[i] = if accM (l.take i) l[i] = 0 then l.take (i + 1) else l.take i := by rw [List.take_succ_eq_append_getElem hlt]; rfl
        have hfew : accM (l.take i) l[i] = 0 → Few (l.take (i + 1)) := fun h => by
          rw [List.take_succ_eq_append_getElem hlt]
          exact ⟨by have := HL4.out; simp; omega, studs_64 h hF.out.2⟩
        have hcode : reqM l[i] = 0 → l[i].s.length ≤ 16 ∧ l[i].c.length ≤ 16 := fun h => ⟨S3.validC_len (reqM_all h).1, S3.validC_len (reqM_all h).2.1⟩
        have hb1 := (Below.refl wr.heap.size wr).alloc (Nat.le_refl _) (.cells #[.string (ba l[i].s), .string (ba l[i].c), .int .i64 l[i].p, .slice q.1 l[i].l.length q.2] 61)
        have hX := Box4.new wr (.string (ba l[i].s)) (.string (ba l[i].c)) (.int .i64 l[i].p) (.slice q.1 l[i].l.length q.2)
        obtain ⟨w1, hw1⟩ : ∃ w1, wr.alloc (.cells #[.string (ba l[i].s), .string (ba l[i].c), .int .i64 l[i].p, .slice q.1 l[i].l.length q.2] 61) = w1 := ⟨_, rfl⟩
        rw [hw1] at hb1 hX
        have hg1 : Gr2 cp.M cp.N w w1 := hK.out.trans (Gr2.below hb1)
        have cC := qcheck_any l[i] q w1 ((hri.kept (fun k hk => hb1.block k (Nat.lt_of_lt_of_le hk hBr))).mono (fun k hk => by have := hb1.size; omega)) (hENV.out w1 hg1)
        have cA := fun (hc : reqM l[i] = 0) W hC hA => accept_any cp (l.take i) l[i] q hF.out (by have := (hcode hc).1; omega) (by have := (hcode hc).2; omega) W hC hA
        unfold AccOut at cA
        rw [hadd] at cA
        unfold Says reqV at cC
        unfold reqV at cA
        rw [HNB.out, HWB.out] at cA
        obtain ⟨X1, hX1⟩ : ∃ X, ba l[i].s = X := ⟨_, rfl⟩
        obtain ⟨X2, hX2⟩ : ∃ X, ba l[i].c = X := ⟨_, rfl⟩
        obtain ⟨PP, hPP⟩ : ∃ X, l[i].p = X := ⟨_, rfl⟩
        obtain ⟨T1, hT1⟩ : ∃ F, l[i].l.length = F := ⟨_, rfl⟩
        obtain ⟨E, hE2⟩ : ∃ E, reqM l[i] = E := ⟨_, rfl⟩
        obtain ⟨D, hD⟩ : ∃ E, accM (l.take i) l[i] = E := ⟨_, rfl⟩
        rw [hX1, hX2, hPP, hT1] at cC cA hX hw1
        rw [hX1] at y0
        rw [hX2] at y1
        rw [hPP] at y2
        rw [hT1] at y3
        rw [hE2] at cC cA hst
        rw [hD] at cA hst hfew
        have HST := hid hst
        have HFE := hid hfew
        have HW1 := hid hw1
        have HX := hid hX
        have HG1 := hid hg1
        have HS1 := hid (hS.out.below hb1)
        have CC := hid cC
        have CA := hid cA
        clear hE2 hD hX1 hX2 hPP hT1 hst hfew hcode hw1 hX hg1 cC cA hri hfb hE hK hS hb1 hCr hadd hBr
        by_cases hE0 : E = 0
        · subst hE0
          have hst := HST.out
          rw [if_neg (by simp)] at hst
          have HS := hid hst
          clear hst
          go_wp2_with fail
          rw [HW1.out]
          refine CC.out.mono ?_
          rintro e w2 ⟨rfl, hb2⟩
          have hX2 := HX.out.next hb2
          have hg2 := HG1.out.trans (Gr2.below hb2)
          have hA2 := HS1.out.below hb2
          obtain ⟨z0, z1, z2, z3⟩ := hX2.cells
          have CA2 := hid (CA.out (by trivial) w2 (HC.out.kept hg2) hA2)
          have HG2 := hid hg2
          clear hA2 hX2 hb2 hg2
          go_wp2_with fail
          refine CA2.out.mono ?_
          rintro e w3 ⟨rfl, hA3, hg3⟩
          have HG3 := hid (HG2.out.trans hg3)
          clear hg3
          by_cases hD0 : D = 0
          · subst hD0
            rw [if_pos rfl] at hA3
            have hst := HS.out
            rw [if_neg (by simp)] at hst
            have HRR := hid hst
            have HA3 := hid hA3
            have HF3 := hid (HFE.out (by trivial))
            clear hst hA3
            go_wp2
            go_roundw
            case rel => exact ⟨i + 1, by go_num, by omega, hid HRR.out.symm, hid HA3.out, HF3, hid HG3.out⟩
            case measure => simp [RowKit.intOf]; omega
          · have hst := HS.out
            rw [if_pos hD0] at hst
            have HRR := hid hst
            have hD0' : (D != 0) = true := by simpa using hD0
            have hD0'' : (D == 0) = false := by simpa using hD0
            clear hst hA3
            go_wp2
            go_ret
            rw [HRR.out]
            exact ⟨rfl, HG3.out⟩
        · have hst := HST.out
          rw [if_pos hE0] at hst
          have HRR := hid hst
          have hE0' : (E != 0) = true := by simpa using hE0
          have hE0'' : (E == 0) = false := by simpa using hE0
          clear hst
          go_wp2_with fail
          rw [HW1.out]
          refine CC.out.mono ?_
          rintro e w2 ⟨rfl, hb2⟩
          have HG2 := hid (HG1.out.trans (Gr2.below hb2))
          clear hb2
          go_wp2
          go_ret
          rw [HRR.out]
          exact ⟨rfl, HG2.out⟩
      · have hltz : ¬ (i : Int) < (l.length : Int) := by omega
        have hn : Hid (R = 0) := hid (by rw [← hE.out, List.drop_of_length_le (by omega)]; rfl)
        go_wp2
        go_ret
        rw [hn.out]
        exact ⟨rfl, hK.out⟩
set_option maxHeartbeats 16000000 in
set_option maxRecDepth 100000 in
theorem qvalid_any (A : Option Addr) (l : List ReqD) (c : Nat) (w : World) (h : ReqsIn w (fun k => k < w.heap.size) A l) (hE : S3.Env w) :
    Calls Tryz.prog 12 #[.slice A l.length c] w (Says (.int .i64 (validQ l)) w) := by
  unfold Says
  obtain ⟨R, hR⟩ : ∃ R, validQ l = R := ⟨_, rfl⟩
  have HR := hid hR
  rw [hR]
  have HH := hid h
  have HE := hid hE
  clear hR h hE
  go_enter Tryz.func12, Tryz.ntmps12
  go_wp2_with fail
  refine (acceptor_any w).mono ?_
  rintro e w4 ⟨cp, rfl, hC, hA, hM, hN, hb4⟩
  have hc := qchk_any A l c cp w.heap.size w4 (HH.out.kept (fun k hk => hb4.block k hk)) hM hN hb4.size (fun W hW => HE.out.below (hb4.trans (hW.under hb4.size hM hN))) hC hA
  rw [HR.out] at hc
  have HC := hid hc
  have HB4 := hid hb4
  have HM := hid hM
  have HN := hid hN
  obtain ⟨F, hF⟩ : ∃ F, cp.fn = F := ⟨_, rfl⟩
  rw [hF] at HC ⊢
  clear hc hC hA hM hN hb4 hF
  go_wp2_with fail
  refine HC.out.mono ?_
  rintro e w5 ⟨rfl, hg5⟩
  have HB5 := hid (HB4.out.trans (hg5.under HB4.out.size HM.out HN.out))
  clear hg5
  go_wp2
  go_ret
  exact ⟨rfl, HB5.out⟩
set_option maxHeartbeats 16000000 in
set_option maxRecDepth 100000 in
theorem entries_any (A : Option Addr) (l : List RecD) (c B : Nat) (cp : Cap) (w : World) (hB : B ≤ w.heap.size) (h1 : B ≤ cp.M) (h2 : B ≤ cp.N) (hM : cp.M < w.heap.size) (hN : cp.N < w.heap.size) (h : RecsIn w (fun k => k < B) A l) (hl : l.length ≤ 1073741824)
    (hsz : ∀ x ∈ l, ∀ f ∈ x.2, f.1.length < 4294967281) (hE : ∀ W, Below B w W → S3.Env W) (hC : CapIn w cp) (hK : Acc w cp []) :
    Calls Tryz.prog 38 #[.slice A l.length c, .int .i64 4, .func (.func 39) #[] #[], cp.fn] w (EntsOut cp (recsM l) w) := by
  obtain ⟨NB, hNB⟩ : ∃ x, cp.NB = x := ⟨_, rfl⟩
  obtain ⟨WB, hWB⟩ : ∃ x, cp.WB = x := ⟨_, rfl⟩
  have hfn : cp.fn = .func (.func 69) #[] #[.pointer (some ⟨NB, 0, none⟩), .pointer (some ⟨WB, 0, none⟩)] := by rw [← hNB, ← hWB]; rfl
  rw [hfn]
  have HNB := hid hNB
  have HWB := hid hWB
  clear hNB hWB hfn
  obtain ⟨i4, hi4, hz4, hs4, hb4⟩ := info_parts infoProb
  obtain ⟨i5, hi5, hz5, hs5, hb5⟩ := info_parts infoReq
  have ea : ∀ args w, (callFunc 69 args).run Tryz.prog w = .ok (.enter 69 args) w := enters_of Tryz.func69 (by kernel_rfl) rfl
  have hI0 := EInv.start (cp := cp) hK
  have HH := hid h
  have HSZ := hid hsz
  have HE := hid hE
  have HC := hid hC
  have HI0 := hid hI0
  clear h hsz hE hC hK hI0
  unfold EntsOut
  go_enter Tryz.func38, Tryz.ntmps38
  go_wp2
  go_loopw [10, 11, 13, 19] (fun u1 u2 _ iv wr => ∃ (i : Nat) (A1 : Option Addr) (n1 c1 : Nat) (A2 : Option Addr) (n2 c2 : Nat), u1 = .slice A1 n1 c1 ∧ u2 = .slice A2 n2 c2 ∧ iv = .int .i64 (i : Int) ∧ i ≤ l.length ∧ Hid (EInv cp w (recsM (l.take i)).1 (recsM (l.take i)).2 (recsM (l.take i)).1 (.slice A1 n1 c1) (.slice A2 n2 c2) wr)) (fun _ _ _ iv _ => l.length - (RowKit.intOf iv).toNat)
  case atStart => exact ⟨0, _, _, _, _, _, _, rfl, rfl, rfl, Nat.zero_le _, hid HI0.out⟩
  case round =>
    obtain ⟨i, A1, n1, c1, A2, n2, c2, rfl, rfl, rfl, hi, hI⟩ := hrel
    have hMs : cp.M < wr.heap.size := hI.out.acc.m.lt
    have hNs : cp.N < wr.heap.size := hI.out.acc.s.lt
    have HNS := hid hNs
    clear hNs
    obtain ⟨Lr0, hL0, ho0, hr0⟩ := hI.out.row
    have hlt1 : ∀ k, (Value.slice A1 n1 c1).ownBlock = some k → k < wr.heap.size := fun k e => (own_lt ho0 k e).2
    have hlt2 : ∀ k, (Value.slice A2 n2 c2).ownBlock = some k → k < wr.heap.size := fun k e => (own_lt hI.out.probs k e).2
    have HL1 := hid hlt1
    have HL2 := hid hlt2
    have HMS := hid hMs
    have hws := hI.out.gr.size
    have HWS := hid hws
    clear hL0 ho0 hr0 hlt1 hlt2 hMs hws
    by_cases hlt : i < l.length
    · have hltz : (i : Int) < (l.length : Int) := by omega
      obtain ⟨fb, fo, A', c', rfl, hfb, hfi, hc1, hc2, y0, y1⟩ := HH.out.at_ hlt
      have kc : ∀ o : Nat, wr.cell? ⟨fb, o, none⟩ = w.cell? ⟨fb, o, none⟩ := fun o => (hI.out.below hB h1 h2).cell (p := ⟨fb, o, none⟩) hfb
      rw [← kc] at y0 y1
      have hst := recsM_take l i hlt
      have hrl := recsM_few (l.take i)
      have hpl := recsM_probs (l.take i)
      rw [List.length_take] at hpl
      have hszi := HSZ.out _ (List.getElem_mem hlt)
      obtain ⟨⟨rs, ps⟩, hst0⟩ : ∃ S, recsM (l.take i) = S := ⟨_, rfl⟩
      rw [hst0] at hst hrl hpl hI
      obtain ⟨⟨line, fs⟩, hx⟩ : ∃ X, l[i] = X := ⟨_, rfl⟩
      rw [hx] at hfi hc1 y0 y1 hst hszi
      dsimp only at hfi hc1 y0 y1 hst hszi hrl hpl hI
      obtain ⟨F, hF⟩ : ∃ F, fs.length = F := ⟨_, rfl⟩
      have hw1 := (Below.refl wr.heap.size wr).alloc (Nat.le_refl _) (.cells #[.int .i64 line, .slice A' F c'] 26)
      have e1 := heap_alloc_new wr (.cells #[.int .i64 line, .slice A' F c'] 26)
      have hs1 : (wr.alloc (.cells #[.int .i64 line, .slice A' F c'] 26)).heap.size = wr.heap.size + 1 := by simp
      have x0 : (wr.alloc (.cells #[.int .i64 line, .slice A' F c'] 26)).cell? ⟨wr.heap.size, 0, none⟩ = some (.int .i64 line) := by rw [Lib.cell_of_heap e1]; rfl
      have x1 : (wr.alloc (.cells #[.int .i64 line, .slice A' F c'] 26)).cell? ⟨wr.heap.size, 1, none⟩ = some (.slice A' F c') := by rw [Lib.cell_of_heap e1]; rfl
      have hMw1 : Below B w (wr.alloc (.cells #[.int .i64 line, .slice A' F c'] 26)) := (hI.out.below hB h1 h2).trans (hw1.mono (Nat.le_trans hB HWS.out))
      have cE := readEntry_any A' fs c' B (wr.alloc (.cells #[.int .i64 line, .slice A' F c'] 26)) (by rw [hs1]; have := HWS.out; omega) (hfi.below hMw1) hc1 hc2
        (fun W R j x r q hb hR hj hf hX hR' => by
          obtain ⟨f, hf1, rfl⟩ := hf
          have q1 := HE.out W (hMw1.trans (hb.mono (by rw [hs1]; have := HWS.out; omega)))
          exact readField_any f.1 r q R W hX hR' q1 (hszi f hf1) j hj)
      rw [hF] at cE y1
      unfold EntryOut at cE
      obtain ⟨⟨r, col, e0⟩, hen⟩ : ∃ S, entryM fs = S := ⟨_, rfl⟩
      have hrec : recM (rs, ps) (line, fs) = if e0 ≠ 0 then (rs, ps ++ [(line, col, e0)]) else if accM rs r ≠ 0 then (rs, ps ++ [(line, col, accM rs r)]) else (rs ++ [r], ps) := by unfold recM; rw [hen]
      rw [hrec] at hst
      rw [hen] at cE
      have CE := hid cE
      have HST := hid hst
      have HI := hid hI.out
      have HE1 := hid e1
      have HW1 := hid hw1
      have HS1 := hid hs1
      have HX := hid hx
      have HST0 := hid hst0
      have HFI := hid hfi
      have HSZI := hid hszi
      have HEN := hid hen
      clear hst hst0 hI e1 hw1 hs1 hx hfi hszi hen hrec kc cE hMw1 hF
      go_wp2_with fail
      generalize wr.alloc (.cells #[.int .i64 line, .slice A' F c'] 26) = w1 at CE HE1 HW1 HS1 x0 x1 ⊢
      refine CE.out.mono ?_
      rintro e w2 ⟨⟨q, rfl, hroom⟩, hb2⟩
      have hrl1 : r.s.length < 4294967281 ∧ r.c.length < 4294967281 := by
        have := entryM_size 4294967281 (by omega) fs HSZI.out
        rw [HEN.out] at this
        exact this
      have hvs : reqV r q = .agg #[.string (ba r.s), .string (ba r.c), .int .i64 r.p, .slice q.1 r.l.length q.2] := rfl
      rw [hvs]
      have hw3 := (Below.refl w2.heap.size w2).alloc (Nat.le_refl _) (.cells #[.string (ba r.s), .string (ba r.c), .int .i64 r.p, .slice q.1 r.l.length q.2] 61)
      have hB5 := Box4.new w2 (.string (ba r.s)) (.string (ba r.c)) (.int .i64 r.p) (.slice q.1 r.l.length q.2)
      have hs3 : (w2.alloc (.cells #[.string (ba r.s), .string (ba r.c), .int .i64 r.p, .slice q.1 r.l.length q.2] 61)).heap.size = w2.heap.size + 1 := by simp
      obtain ⟨w3, hw3e⟩ : ∃ w3, w2.alloc (.cells #[.string (ba r.s), .string (ba r.c), .int .i64 r.p, .slice q.1 r.l.length q.2] 61) = w3 := ⟨_, rfl⟩
      rw [hw3e] at hw3 hB5 hs3
      have hb13 : Below wr.heap.size wr w3 := HW1.out.trans ((hb2.mono (by rw [HS1.out]; omega)).trans (hw3.mono (by have := hb2.size; have := HW1.out.size; omega)))
      have hI3 := HI.out.under hM hN hb13
      have hroom3 : ReqIn w3 (fun k => w1.heap.size ≤ k ∧ k < w3.heap.size) r q := (hroom.kept (fun k hk => hw3.block k hk.2)).mono (fun k hk => ⟨hk.1, by omega⟩)
      have x03 : w3.cell? ⟨wr.heap.size, 0, none⟩ = some (.int .i64 line) := by
        rw [hw3.cell (p := ⟨wr.heap.size, 0, none⟩) (by have := hb2.size; have := HS1.out; show wr.heap.size < w2.heap.size; omega), hb2.cell (p := ⟨wr.heap.size, 0, none⟩) (by have := HS1.out; show wr.heap.size < w1.heap.size; omega)]
        exact x0
      have hz3 : wr.heap.size < w3.heap.size := by have := hb2.size; have := HS1.out; omega
      have HI3 := hid hI3
      have HR3 := hid hroom3
      have HB5 := hid hB5
      have HZ3 := hid hz3
      have HS3 := hid hs3
      have HZ2 := hid hb2.size
      clear hI3 hroom3 hB5 hb13 hw3 hroom hb2 x0 x1 hvs hz3 hs3
      by_cases he : e0 = 0
      · subst he
        have hst := HST.out
        rw [if_neg (by simp)] at hst
        have cA3 := accept_any cp rs r q hrl (by omega) (by omega) w3 (HC.out.kept HI3.out.gr) HI3.out.acc
        unfold AccOut preA reqV at cA3
        rw [HNB.out, HWB.out] at cA3
        obtain ⟨e1, he1⟩ : ∃ e1, accM rs r = e1 := ⟨_, rfl⟩
        rw [he1] at cA3 hst
        have CA := hid cA3
        obtain ⟨y0', y1', y2', y3'⟩ := HB5.out.cells
        clear cA3
        by_cases he2 : e1 = 0
        · subst he2
          rw [if_neg (by simp)] at hst
          have HSTF := hid hst
          clear hst
          go_wp2_with fail
          refine CA.out.mono ?_
          rintro e w4 ⟨rfl, hk4, hg4⟩
          rw [if_pos trivial] at hk4
          have hI4 := HI3.out.past hM hN hg4 hk4
          have hB54 := HB5.out.kept (hg4.block w2.heap.size (by have := HS3.out; omega) (by have := HMS.out; have := HZ2.out; have := HS1.out; omega) (by have := HNS.out; have := HZ2.out; have := HS1.out; omega))
          have hR4 : ReqIn w4 (fun k => w1.heap.size ≤ k ∧ k < w4.heap.size) r q := (HR3.out.kept (fun k hk => hg4.block k hk.2 (by have := HMS.out; have := HS1.out; have := hk.1; omega) (by have := HNS.out; have := HS1.out; have := hk.1; omega))).mono (fun k hk => ⟨hk.1, Nat.lt_of_lt_of_le hk.2 hg4.size⟩)
          obtain ⟨Lr0, hL0, ho0, hr0⟩ := hI4.row
          have HRR := hid hr0
          have hz4 : wr.heap.size < w4.heap.size := Nat.lt_of_lt_of_le HZ3.out hg4.size
          have hrz : rs.length = n1 := by
            have hl0 : Lr0.length = rs.length := by rw [← hL0, List.length_map]
            rcases ho0.2 with ⟨hv, h0⟩ | ⟨g, cap, cur, hv, _⟩
            · injection hv with _ h1 _; omega
            · injection hv with _ h1 _; omega
          have hl0 : Lr0.length = n1 := by rw [← hrz, ← hL0, List.length_map]
          rw [hl0] at ho0
          have HMX : Hid (n1 + 1 ≤ maxLen) := hid (by have := hrl.1; unfold maxLen; omega)
          have HBY : Hid ((n1 + 1) * 64 ≤ 140737488355328) := hid (by have := hrl.1; omega)
          have HO0 := hid ho0
          have HL0 := hid hL0
          have HLL0 := hid hl0
          have HRZ := hid hrz
          have HI4 := hid hI4
          have HR4 := hid hR4
          have HN5 : Hid (∀ (j : Nat) (u : Value), (reqVs r q)[j]? = some u → (w4.alloc (.cells #[.string (ba r.s), .string (ba r.c), .int .i64 r.p, .slice q.1 r.l.length q.2] 61)).cell? ((⟨w4.heap.size, 0, none⟩ : Addr).add j) = some u) := hid (four_newR w4 r q)
          have HON : Hid (∀ u ∈ reqVs r q, u.oneCell' = true) := hid (req_one r q)
          have HW4S : Hid (w.heap.size ≤ (w4.alloc (.cells #[.string (ba r.s), .string (ba r.c), .int .i64 r.p, .slice q.1 r.l.length q.2] 61)).heap.size) := hid (by have := HWS.out; simp; omega)
          obtain ⟨z0', z1', z2', z3'⟩ := hB54.cells
          clear hr0 hI4 hR4 hB54 hk4 hg4 ho0 hL0 hl0 hrz y0' y1' y2' y3'
          go_wp2_with (at_builtin; refine wpList_append_own_at _ rfl _ _ 22 rfl w.heap.size 61 i5 (.agg #[.string ⟨#[]⟩, .string ⟨#[]⟩, .int .i64 0, .slice none 0 0]) 4 64 Tryz.underlying22 hi5 hz5 hs5 hb5 rfl (by decide) _ n1 (reqVals Lr0) rfl (World.ownsRow.alloc HO0.out _) ⟨w4.heap.size, 0, none⟩ 1 1 (reqVs r q) rfl rfl HN5.out HON.out HMX.out HBY.out HW4S.out ?_)
          intro v' w5 hown' hgrow hnil hat
          obtain ⟨g', cap', rfl⟩ := ownsRow_succ (k := n1) hown'
          have hI5 := EInv.room (C := w1.heap.size) HI4.out hM hN HR4.out (by have := HWS.out; have := HS1.out; omega) (fun k e => by have := HL1.out k e; have := HS1.out; omega) (fun k e => by have := HL2.out k e; have := HS1.out; omega) HL0.out (by rw [HLL0.out]; exact HO0.out) HRR.out (v1' := .slice (some ⟨g', 0, none⟩) (n1 + 1) cap') (by rw [HLL0.out]; exact hown') (grownBy_of_alloc hgrow) (hat.imp id (fun h => ⟨_, h, by simp⟩))
          have HI5 : Hid (EInv cp w (recsM (l.take (i + 1))).1 (recsM (l.take (i + 1))).2 (recsM (l.take (i + 1))).1 (.slice (some ⟨g', 0, none⟩) (n1 + 1) cap') (.slice A2 n2 c2) w5) := hid (by rw [HSTF.out]; exact hI5)
          clear hI5 hown' hgrow hnil hat
          go_wp2_with fail
          go_roundw
          case rel => exact ⟨i + 1, _, _, _, _, _, _, rfl, rfl, by go_num, by omega, HI5⟩
          case measure => simp [RowKit.intOf]; omega
        · rw [if_pos he2] at hst
          have HSTF := hid hst
          have HNE := hid he2
          clear hst
          go_wp2_with fail
          refine CA.out.mono ?_
          rintro e w4 ⟨rfl, hk4, hg4⟩
          rw [if_neg he2] at hk4
          have hI4 := HI3.out.past hM hN hg4 hk4
          have x04 : w4.cell? ⟨wr.heap.size, 0, none⟩ = some (.int .i64 line) := (World.cell?_of_block (w := w3) (hg4.block wr.heap.size HZ3.out (by have := HMS.out; omega) (by have := HNS.out; omega))).trans x03
          have HI4 := hid hI4
          clear hI4 hk4 hg4 y0' y1' y2' y3'
          have hne2 : (e1 != 0) = true := by simpa using HNE.out
          have hpz : ps.length = n2 := by
            rcases HI4.out.probs.2 with ⟨hv, h0⟩ | ⟨g, cap, cur, hv, _⟩
            · injection hv with _ h1 _; omega
            · injection hv with _ h1 _; omega
          have HMX : Hid (n2 + 1 ≤ maxLen) := hid (by unfold maxLen; omega)
          have HBY : Hid ((n2 + 1) * 32 ≤ 140737488355328) := hid (by omega)
          have hprow : ProbsRow w4 w.heap.size (.slice A2 n2 c2) ps := HI4.out.probs
          unfold ProbsRow at hprow
          rw [hpz] at hprow
          have HPR := hid hprow
          have HN4 : Hid (∀ (j : Nat) (u : Value), (probVs (line, col, e1))[j]? = some u → (w4.alloc (.cells #[.int .i64 0, .int .i64 line, .int .i64 col, .int .i64 e1] 80)).cell? ((⟨w4.heap.size, 0, none⟩ : Addr).add j) = some u) := hid (four_new w4 0 line col e1 80)
          have HON : Hid (∀ u ∈ probVs (line, col, e1), u.oneCell' = true) := hid (times_one (0, line, col, e1))
          have HWZ := hid HI4.out.gr.size
          have HW3S : Hid (w.heap.size ≤ (w4.alloc (.cells #[.int .i64 0, .int .i64 line, .int .i64 col, .int .i64 e1] 80)).heap.size) := hid (by have := HWZ.out; simp; omega)
          clear hprow
          go_wp2_with (at_builtin; (try rw [hw3e]); refine wpList_append_own_at _ rfl _ _ 32 rfl w.heap.size 80 i4 (.agg #[.int .i64 0, .int .i64 0, .int .i64 0, .int .i64 0]) 4 32 Tryz.underlying32 hi4 hz4 hs4 hb4 rfl (by decide) _ n2 (probVals ps) rfl (World.ownsRow.alloc HPR.out _) ⟨w4.heap.size, 0, none⟩ 1 1 (probVs (line, col, e1)) rfl rfl HN4.out HON.out HMX.out HBY.out HW3S.out ?_)
          intro v' w5 hown' hgrow hnil hat
          obtain ⟨g', cap', rfl⟩ := ownsRow_succ (k := n2) hown'
          have hI5 := HI4.out.prob (p := (line, col, e1)) hM hN (v2' := .slice (some ⟨g', 0, none⟩) (n2 + 1) cap') (by unfold ProbsRow; rw [probVals_app, List.length_append, hpz]; simpa [probVals] using hown') (grownBy_of_alloc hgrow) (hat.imp id (fun h => ⟨_, h, by simp⟩))
          have HI5 : Hid (EInv cp w (recsM (l.take (i + 1))).1 (recsM (l.take (i + 1))).2 (recsM (l.take (i + 1))).1 (.slice A1 n1 c1) (.slice (some ⟨g', 0, none⟩) (n2 + 1) cap') w5) := hid (by rw [HSTF.out]; exact hI5)
          clear hI5 hown' hgrow hnil hat
          go_wp2_with fail
          go_roundw
          case rel => exact ⟨i + 1, _, _, _, _, _, _, rfl, rfl, by go_num, by omega, HI5⟩
          case measure => simp [RowKit.intOf]; omega
      · have hst := HST.out
        rw [if_pos he] at hst
        have HSTF := hid hst
        clear hst
        have hne : (e0 == 0) = false := by simpa using he
        have HNE := hid he
        have hne2 : (e0 != 0) = true := by simpa using HNE.out
        have hpz : ps.length = n2 := by
          rcases HI3.out.probs.2 with ⟨hv, h0⟩ | ⟨g, cap, cur, hv, _⟩
          · injection hv with _ h1 _; omega
          · injection hv with _ h1 _; omega
        have HMX : Hid (n2 + 1 ≤ maxLen) := hid (by unfold maxLen; omega)
        have HBY : Hid ((n2 + 1) * 32 ≤ 140737488355328) := hid (by omega)
        have hprow : ProbsRow w3 w.heap.size (.slice A2 n2 c2) ps := HI3.out.probs
        unfold ProbsRow at hprow
        rw [hpz] at hprow
        have HPR := hid hprow
        have HN4 : Hid (∀ (j : Nat) (u : Value), (probVs (line, col, e0))[j]? = some u → (w3.alloc (.cells #[.int .i64 0, .int .i64 line, .int .i64 col, .int .i64 e0] 80)).cell? ((⟨w3.heap.size, 0, none⟩ : Addr).add j) = some u) := hid (four_new w3 0 line col e0 80)
        have HON : Hid (∀ u ∈ probVs (line, col, e0), u.oneCell' = true) := hid (times_one (0, line, col, e0))
        have HWZ := hid HI3.out.gr.size
        have HW3S : Hid (w.heap.size ≤ (w3.alloc (.cells #[.int .i64 0, .int .i64 line, .int .i64 col, .int .i64 e0] 80)).heap.size) := hid (by have := HWZ.out; simp; omega)
        clear hprow
        go_wp2_with (at_builtin; (try rw [hw3e]); refine wpList_append_own_at _ rfl _ _ 32 rfl w.heap.size 80 i4 (.agg #[.int .i64 0, .int .i64 0, .int .i64 0, .int .i64 0]) 4 32 Tryz.underlying32 hi4 hz4 hs4 hb4 rfl (by decide) _ n2 (probVals ps) rfl (World.ownsRow.alloc HPR.out _) ⟨w3.heap.size, 0, none⟩ 1 1 (probVs (line, col, e0)) rfl rfl HN4.out HON.out HMX.out HBY.out HW3S.out ?_)
        intro v' w5 hown' hgrow hnil hat
        obtain ⟨g', cap', rfl⟩ := ownsRow_succ (k := n2) hown'
        have hI5 := HI3.out.prob (p := (line, col, e0)) hM hN (v2' := .slice (some ⟨g', 0, none⟩) (n2 + 1) cap') (by unfold ProbsRow; rw [probVals_app, List.length_append, hpz]; simpa [probVals] using hown') (grownBy_of_alloc hgrow) (hat.imp id (fun h => ⟨_, h, by simp⟩))
        have HI5 : Hid (EInv cp w (recsM (l.take (i + 1))).1 (recsM (l.take (i + 1))).2 (recsM (l.take (i + 1))).1 (.slice A1 n1 c1) (.slice (some ⟨g', 0, none⟩) (n2 + 1) cap') w5) := hid (by rw [HSTF.out]; exact hI5)
        clear hI5 hown' hgrow hnil hat
        go_wp2_with fail
        go_roundw
        case rel => exact ⟨i + 1, _, _, _, _, _, _, rfl, rfl, by go_num, by omega, HI5⟩
        case measure => simp [RowKit.intOf]; omega
    · have hltz : ¬ (i : Int) < (l.length : Int) := by omega
      rw [List.take_of_length_le (by omega)] at hI
      go_wp2
      go_ret2
      exact ⟨_, _, rfl, hI.out⟩
def ReadOut (o : List ReqD × List ProbD) (w : World) (e : Ending) (w' : World) : Prop :=
  ∃ v1 v2, e = .returned (.tuple #[v1, v2]) ∧ ReqRow w' w.heap.size (fun k => w.heap.size ≤ k ∧ k < w'.heap.size) v1 o.1 ∧ ProbsRow w' w.heap.size v2 o.2 ∧ Below w.heap.size w w'
theorem rowLowQ {w : World} {e z n B B' : Nat} {v : Value} {xs : List Value} (h : w.ownsRow B e z v n xs) (hB : B' ≤ B) : w.ownsRow B' e z v n xs := by
  obtain ⟨h1, h2⟩ := h
  refine ⟨h1, ?_⟩
  rcases h2 with h2 | ⟨g, cap, cur, hv, hg, r⟩
  · exact .inl h2
  · exact .inr ⟨g, cap, cur, hv, Nat.le_trans hB hg, r⟩
set_option maxHeartbeats 16000000 in
set_option maxRecDepth 100000 in
theorem qread_any (A : Option Addr) (l : List RecD) (c : Nat) (w : World) (h : RecsIn w (fun k => k < w.heap.size) A l) (hl : l.length ≤ 1073741824)
    (hsz : ∀ x ∈ l, ∀ f ∈ x.2, f.1.length < 4294967281) (hE : S3.Env w) :
    Calls Tryz.prog 10 #[.slice A l.length c] w (ReadOut (recsM l) w) := by
  unfold ReadOut
  have HH := hid h
  have HE := hid hE
  have HSZ := hid hsz
  clear h hE hsz
  go_enter Tryz.func10, Tryz.ntmps10
  go_wp2_with fail
  refine (acceptor_any w).mono ?_
  rintro e w2 ⟨cp, rfl, hC, hA, hM4, hN4, hb2⟩
  have hrec : RecsIn w2 (fun k => k < w.heap.size) A l := HH.out.kept (fun k hk => hb2.block k hk)
  have cE := entries_any A l c w.heap.size cp w2 hb2.size hM4 hN4 hA.m.lt hA.s.lt hrec hl HSZ.out (fun W hW => HE.out.below (hb2.trans hW)) hC hA
  unfold EntsOut at cE
  have CE := hid cE
  have HB2 := hid hb2
  have HM4 := hid hM4
  have HN4 := hid hN4
  obtain ⟨F, hF⟩ : ∃ F, cp.fn = F := ⟨_, rfl⟩
  rw [hF] at CE ⊢
  clear cE hrec hA hC hM4 hN4 hb2 hF
  go_wp2_with fail
  refine CE.out.mono ?_
  rintro e w3 ⟨v1, v2, rfl, hi⟩
  have HI := hid hi
  clear hi
  go_wp2
  go_ret2
  obtain ⟨⟨Lr, hL, ho, hr⟩, hp, _, hb⟩ := HI.out
  have hw12 := HB2.out.size
  have hn : (recsM l).1.length = Lr.length := by rw [← hL, List.length_map]
  refine ⟨v1, v2, rfl, ⟨Lr, hL, ?_, fun p hp' => (hr p hp').mono (fun k hk => ⟨by omega, hk.2.1⟩)⟩, rowLowQ hp (by omega), ?_⟩
  · rw [hn]
    exact rowLowQ ho (by omega)
  · exact HB2.out.trans (HI.out.below HB2.out.size HM4.out HN4.out)
theorem infoIQ : (Tryz.prog.info? 3).map (fun i => (i.zero, i.size, i.bytes)) = some (some (.int .i64 0), 1, 8) := by kernel_rfl
theorem recsM_size (K : Nat) (hK : 0 < K) (l : List RecD) (h : ∀ x ∈ l, ∀ f ∈ x.2, f.1.length < K) : ∀ r ∈ (recsM l).1, r.s.length < K := by
  unfold recsM
  have : ∀ (l : List RecD) (st : List ReqD × List ProbD), (∀ x ∈ l, ∀ f ∈ x.2, f.1.length < K) → (∀ r ∈ st.1, r.s.length < K) → ∀ r ∈ (l.foldl recM st).1, r.s.length < K := by
    intro l
    induction l with
    | nil => exact fun st _ h => h
    | cons x t ih =>
      intro st hx hs
      rw [List.foldl_cons]
      refine ih _ (fun y hy => hx y (List.mem_cons_of_mem _ hy)) ?_
      unfold recM
      split
      · exact hs
      · split
        · exact hs
        · intro r hr
          rcases List.mem_append.1 hr with hr | hr
          · exact hs r hr
          · rw [List.mem_singleton] at hr
            subst hr
            exact (entryM_size K hK x.2 (hx x (by simp))).1
  exact this l _ h (fun r hr => by simp at hr)
structure RInvV (w : World) (rs : List ReqD) (ps : List ProbD) (v1 v3 v2 : Value) (n3 : Nat) (W : World) : Prop where
  row : ∃ Lr : List (ReqD × ReqA), Lr.map (·.1) = rs ∧ W.ownsRow w.heap.size 61 4 v1 Lr.length (reqVals Lr) ∧ ∀ p ∈ Lr, ReqIn W (fun k => w.heap.size ≤ k ∧ k < W.heap.size ∧ some k ≠ v1.ownBlock ∧ some k ≠ v2.ownBlock ∧ some k ≠ v3.ownBlock) p.1 p.2
  lines : ∃ xs, W.ownsRow w.heap.size 3 1 v3 n3 xs
  probs : ProbsRow W w.heap.size v2 ps
  below : Below w.heap.size w W
theorem RInvV.start (w : World) : RInvV w [] [] (.slice none 0 0) (.slice none 0 0) (.slice none 0 0) 0 w :=
  ⟨⟨[], rfl, World.ownsRow_nil _ _ _ _, fun p hp => by simp at hp⟩, ⟨[], World.ownsRow_nil _ _ _ _⟩, World.ownsRow_nil _ _ _ _, Below.refl _ _⟩
section
variable {w W W' : World} {rs : List ReqD} {ps : List ProbD} {v1 v2 v3 : Value} {n3 : Nat}
theorem RInvV.under (h : RInvV w rs ps v1 v3 v2 n3 W) (hb : Below W.heap.size W W') : RInvV w rs ps v1 v3 v2 n3 W' := by
  obtain ⟨⟨Lr, hL, ho, hr⟩, ⟨xs, hx⟩, hp, h3⟩ := h
  exact ⟨⟨Lr, hL, S3.row_under ho hb, fun p hp' => ((hr p hp').kept (fun k hk => hb.block k hk.2.1)).mono (fun k hk => ⟨hk.1, Nat.lt_of_lt_of_le hk.2.1 hb.size, hk.2.2⟩)⟩, ⟨xs, S3.row_under hx hb⟩, S3.row_under hp hb, h3.trans (hb.mono h3.size)⟩
theorem still_neQ {v v' : Value} (hat : v'.ownBlock = v.ownBlock ∨ ∃ k, v'.ownBlock = some k ∧ W.heap.size ≤ k) {k : Nat} (hk : k < W.heap.size) (h : some k ≠ v.ownBlock) : some k ≠ v'.ownBlock := by
  rcases hat with e | ⟨j, e, hj⟩
  · rw [e]; exact h
  · rw [e]; intro e0; injection e0 with e0; omega
theorem RInvV.prob {v2' : Value} {p : ProbD} (h : RInvV w rs ps v1 v3 v2 n3 W) (hown : ProbsRow W' w.heap.size v2' (ps ++ [p])) (hg : W.grownBy W' v2.ownBlock) (hat : v2'.ownBlock = v2.ownBlock ∨ ∃ k, v2'.ownBlock = some k ∧ W.heap.size ≤ k) : RInvV w rs (ps ++ [p]) v1 v3 v2' n3 W' := by
  obtain ⟨⟨Lr, hL, ho, hr⟩, ⟨xs, hx⟩, hp, hb⟩ := h
  have hs := hg.size
  have hbs := hb.size
  exact ⟨⟨Lr, hL, World.ownsRow.kept ho hg (kinds_ne ho hp (by decide)), fun p hp' => ((hr p hp').kept (fun k hk => hg.block k hk.2.1 hk.2.2.2.1)).mono (fun k hk => ⟨hk.1, by omega, hk.2.2.1, still_neQ hat hk.2.1 hk.2.2.2.1, hk.2.2.2.2⟩)⟩,
    ⟨xs, World.ownsRow.kept hx hg (kinds_ne hx hp (by decide))⟩, hown, hb.grown hg (by omega) (fun k e => (own_lt hp k e).1)⟩
theorem RInvV.line {v3' : Value} {m3 : Nat} {ys : List Value} (h : RInvV w rs ps v1 v3 v2 n3 W) (hown : W'.ownsRow w.heap.size 3 1 v3' m3 ys) (hg : W.grownBy W' v3.ownBlock) (hat : v3'.ownBlock = v3.ownBlock ∨ ∃ k, v3'.ownBlock = some k ∧ W.heap.size ≤ k) : RInvV w rs ps v1 v3' v2 m3 W' := by
  obtain ⟨⟨Lr, hL, ho, hr⟩, ⟨xs, hx⟩, hp, hb⟩ := h
  have hs := hg.size
  have hbs := hb.size
  exact ⟨⟨Lr, hL, World.ownsRow.kept ho hg (kinds_ne ho hx (by decide)), fun p hp' => ((hr p hp').kept (fun k hk => hg.block k hk.2.1 hk.2.2.2.2)).mono (fun k hk => ⟨hk.1, by omega, hk.2.2.1, hk.2.2.2.1, still_neQ hat hk.2.1 hk.2.2.2.2⟩)⟩,
    ⟨ys, hown⟩, World.ownsRow.kept hp hg (kinds_ne hp hx (by decide)), hb.grown hg (by omega) (fun k e => (own_lt hx k e).1)⟩
theorem RInvV.room {v1' : Value} {r : ReqD} {q : ReqA} {C : Nat} (h : RInvV w rs ps v1 v3 v2 n3 W)
    (hr' : ReqIn W (fun k => C ≤ k ∧ k < W.heap.size) r q) (hC : w.heap.size ≤ C) (h1 : ∀ k, v1.ownBlock = some k → k < C) (h2 : ∀ k, v2.ownBlock = some k → k < C) (h3 : ∀ k, v3.ownBlock = some k → k < C)
    {Lr : List (ReqD × ReqA)} (hL : Lr.map (·.1) = rs) (ho : W.ownsRow w.heap.size 61 4 v1 Lr.length (reqVals Lr)) (hr : ∀ p ∈ Lr, ReqIn W (fun k => w.heap.size ≤ k ∧ k < W.heap.size ∧ some k ≠ v1.ownBlock ∧ some k ≠ v2.ownBlock ∧ some k ≠ v3.ownBlock) p.1 p.2)
    (hown : W'.ownsRow w.heap.size 61 4 v1' (Lr.length + 1) (reqVals Lr ++ reqVs r q))
    (hg : W.grownBy W' v1.ownBlock) (hat : v1'.ownBlock = v1.ownBlock ∨ ∃ k, v1'.ownBlock = some k ∧ W.heap.size ≤ k) : RInvV w (rs ++ [r]) ps v1' v3 v2 n3 W' := by
  obtain ⟨_, ⟨xs, hx⟩, hp, hb⟩ := h
  have hs := hg.size
  have hbs := hb.size
  refine ⟨⟨Lr ++ [(r, q)], by rw [List.map_append, hL]; rfl, ?_, fun p hp' => ?_⟩, ⟨xs, World.ownsRow.kept hx hg (kinds_ne hx ho (by decide))⟩, World.ownsRow.kept hp hg (kinds_ne hp ho (by decide)), hb.grown hg (by omega) (fun k e => (own_lt ho k e).1)⟩
  · rw [reqVals_app, List.length_append, List.length_singleton]
    simpa [reqVals] using hown
  · rcases List.mem_append.1 hp' with hp' | hp'
    · exact ((hr p hp').kept (fun k hk => hg.block k hk.2.1 hk.2.2.1)).mono (fun k hk => ⟨hk.1, by omega, still_neQ hat hk.2.1 hk.2.2.1, hk.2.2.2⟩)
    · rw [List.mem_singleton] at hp'
      subst hp'
      have k1 : ∀ k, C ≤ k → some k ≠ v1.ownBlock := fun k hk e => by have := h1 k e.symm; omega
      have k2 : ∀ k, C ≤ k → some k ≠ v2.ownBlock := fun k hk e => by have := h2 k e.symm; omega
      have k3 : ∀ k, C ≤ k → some k ≠ v3.ownBlock := fun k hk e => by have := h3 k e.symm; omega
      exact (hr'.kept (fun k hk => hg.block k hk.2 (k1 k hk.1))).mono (fun k hk => ⟨by omega, by omega, still_neQ hat hk.2 (k1 k hk.1), k2 k hk.1, k3 k hk.1⟩)
theorem RInvV.rooms {A1 : Option Addr} {n1 c1 : Nat} (h : RInvV w rs ps (.slice A1 n1 c1) v3 v2 n3 W) : n1 = rs.length ∧ ReqsIn W (fun k => k < W.heap.size) A1 rs := by
  obtain ⟨⟨Lr, hL, ho, hr⟩, _, hp, hb⟩ := h
  have hl : Lr.length = rs.length := by rw [← hL, List.length_map]
  rw [hl] at ho
  obtain ⟨A, c, hv, _, _, hin⟩ := ReqRow.reqsIn (P := fun k => k < W.heap.size) ⟨Lr, hL, ho, fun p hp => (hr p hp).mono (fun k hk => hk.2.1)⟩
  injection hv with e1 e2 _
  subst e1
  exact ⟨e2, hin.mono (fun k hk => by rcases hk with h | h; exact h; exact h.2)⟩
end
structure TGV (wo : World) (bp op : Nat) (line : Int) (v : Value) (w : World) : Prop where
  c0 : w.cell? ⟨bp, op, none⟩ = some (.int .i64 line)
  c1 : w.cell? ⟨bp, op + 1, none⟩ = some v
  o : Below wo.heap.size wo w
  z : bp < wo.heap.size
theorem TGV.next {wo w w' : World} {line : Int} {bp op : Nat} {v : Value} (h : TGV wo bp op line v w) (q : Below w.heap.size w w') : TGV wo bp op line v w' :=
  have k := q.mono h.o.size
  ⟨(k.cell (p := ⟨bp, op, none⟩) h.z).trans h.c0, (k.cell (p := ⟨bp, op + 1, none⟩) h.z).trans h.c1, h.o.trans k, h.z⟩
theorem four_cellsQ (w : World) (v0 v1 v2 v3 : Value) : ∀ (j : Nat) (u : Value), [v0, v1, v2, v3][j]? = some u → (w.alloc (.cells #[v0, v1, v2, v3] 61)).cell? ((⟨w.heap.size, 0, none⟩ : Addr).add j) = some u := by
  intro j u h
  obtain ⟨k0, k1, k2, k3⟩ := (Box4.new w v0 v1 v2 v3).cells
  rw [Addr.add_lit]
  match j, h with
  | 0, h => exact k0.trans h
  | 1, h => exact k1.trans h
  | 2, h => exact k2.trans h
  | 3, h => exact k3.trans h
  | j + 4, h => simp at h
theorem one_cellQ (w : World) (v : Value) (T : TypeId) : ∀ (j : Nat) (u : Value), [v][j]? = some u → (w.alloc (.cells #[v] T)).cell? ((⟨w.heap.size, 0, none⟩ : Addr).add j) = some u := by
  intro j u h
  rw [Addr.add_lit, Lib.cell_of_heap (heap_alloc_new w _)]
  match j, h with
  | 0, h => simpa using h
  | j + 1, h => simp at h
set_option maxHeartbeats 16000000 in
set_option maxRecDepth 100000 in
theorem qrlines_any (A : Option Addr) (l : List RecD) (c : Nat) (w : World) (h : RecsIn w (fun k => k < w.heap.size) A l) (hl : l.length ≤ 1073741824)
    (hsz : ∀ x ∈ l, ∀ f ∈ x.2, f.1.length ≤ 2097152) :
    Calls Tryz.prog 41 #[.slice A l.length c] w fun e w' =>
      ∃ v1 v3 v2, e = .returned (.tuple #[v1, v3, v2]) ∧ ReqRow w' w.heap.size (fun k => w.heap.size ≤ k ∧ k < w'.heap.size) v1 (recsM l).1 ∧ ProbsRow w' w.heap.size v2 (recsM l).2 ∧ Below w.heap.size w w' := by
  obtain ⟨i4, hi4, hz4, hs4, hb4⟩ := info_parts infoProb
  obtain ⟨i5, hi5, hz5, hs5, hb5⟩ := info_parts infoReq
  obtain ⟨i3, hi3, hz3, hs3, hb3⟩ := info_parts infoIQ
  have HH := hid h
  have HSZ := hid hsz
  clear h hsz
  go_enter Tryz.func41, Tryz.ntmps41
  go_wp2
  go_loopw [5, 6, 7, 8] (fun v1 v3 v2 iv wr => ∃ (i : Nat) (A1 : Option Addr) (n1 c1 : Nat) (A3 : Option Addr) (n3 c3 : Nat) (A2 : Option Addr) (n2 c2 : Nat), v1 = .slice A1 n1 c1 ∧ v3 = .slice A3 n3 c3 ∧ v2 = .slice A2 n2 c2 ∧ iv = .int .i64 (i : Int) ∧ i ≤ l.length ∧ n3 ≤ i ∧ Hid (RInvV w (recsM (l.take i)).1 (recsM (l.take i)).2 (.slice A1 n1 c1) (.slice A3 n3 c3) (.slice A2 n2 c2) n3 wr)) (fun _ _ _ iv _ => l.length - (RowKit.intOf iv).toNat)
  case atStart => exact ⟨0, none, 0, 0, none, 0, 0, none, 0, 0, rfl, rfl, rfl, rfl, Nat.zero_le _, Nat.le_refl _, hid (RInvV.start w)⟩
  case round =>
    obtain ⟨i, A1, n1, c1, A3, n3, c3, A2, n2, c2, rfl, rfl, rfl, rfl, hi, hn3, hI⟩ := hrel
    by_cases hlt : i < l.length
    · have hltz : (i : Int) < (l.length : Int) := by omega
      have hwz := hI.out.below.size
      have hbw : Below w.heap.size w wr := hI.out.below
      obtain ⟨fb, fo, A', c', rfl, hfb, hfi, hc1, hc2, y0, y1⟩ := (HH.out.below hbw).at_ hlt
      have hst := recsM_take l i hlt
      have hrl := (recsM_few (l.take i)).1
      have hls := recsM_size 2097153 (by omega) (l.take i) (fun x hx f hf => by have := HSZ.out x (List.mem_of_mem_take hx) f hf; omega)
      have hpl := recsM_probs (l.take i)
      rw [List.length_take] at hpl
      have hszi := HSZ.out _ (List.getElem_mem hlt)
      obtain ⟨⟨rs, ps⟩, hst0⟩ : ∃ S, recsM (l.take i) = S := ⟨_, rfl⟩
      rw [hst0] at hst hrl hls hpl hI
      obtain ⟨⟨line, fs⟩, hx⟩ : ∃ X, l[i] = X := ⟨_, rfl⟩
      rw [hx] at hfi hc1 y0 y1 hst hszi
      dsimp only at hfi hc1 y0 y1 hst hszi hrl hls hpl hI
      obtain ⟨F, hF⟩ : ∃ F, fs.length = F := ⟨_, rfl⟩
      rw [hF] at hc1 y1
      have hrr := hI.out.rooms
      have hn1 := hrr.1
      have hlt1 : ∀ k, (Value.slice A1 n1 c1).ownBlock = some k → k < wr.heap.size := fun k e => by obtain ⟨Lr, _, ho, _⟩ := hI.out.row; exact (own_lt ho k e).2
      have hlt2 : ∀ k, (Value.slice A2 n2 c2).ownBlock = some k → k < wr.heap.size := fun k e => (own_lt hI.out.probs k e).2
      have hlt3 : ∀ k, (Value.slice A3 n3 c3).ownBlock = some k → k < wr.heap.size := fun k e => by obtain ⟨xs, ho⟩ := hI.out.lines; exact (own_lt ho k e).2
      have cR := one_any line A' fs c' A1 rs c1 wr (hfi.mono (fun k hk => Nat.lt_of_lt_of_le hk hbw.size)) hrr.2 hrl (fun r hr => by have := hls r hr; omega) hszi
      rw [hF, ← hn1] at cR
      unfold ReqOut at cR
      have CR := hid cR
      have hts : TGV wr fb (fo + i * 2) line (.slice A' F c') wr := ⟨y0, y1, Below.refl _ _, Nat.lt_of_lt_of_le hfb hbw.size⟩
      have HTS := hid hts
      have HST := hid hst
      have HFI := hid hfi
      have HF := hid hF
      have HL1 := hid hlt1
      have HL2 := hid hlt2
      have HL3 := hid hlt3
      have hd : decide (l.length ≤ i) = false := decide_eq_false (by omega)
      have HBW := hid hbw
      have hrl16 : n1 ≤ 400 := by omega
      have HN1 := hid hn1
      clear hst hst0 hx hfi hszi hls hF hn1 hlt1 hlt2 hlt3 hts hbw cR hrr
      go_wp2_with fail
      refine CR.out.mono ?_
      rintro e w2 ⟨⟨r, q, k, e0, rfl, hone, hin⟩, hb2⟩
      have HONE := hid hone
      have HIN := hid hin
      have HT2 := hid (HTS.out.next hb2)
      have HI2 := hid (hI.out.under hb2)
      have HB2 := hid hb2
      unfold reqV
      clear hone hin hb2 CR y0 y1
      obtain ⟨X0, hX0⟩ : ∃ X, ba r.s = X := ⟨_, rfl⟩
      obtain ⟨X1, hX1⟩ : ∃ X, ba r.c = X := ⟨_, rfl⟩
      obtain ⟨m1, hm1⟩ : ∃ m, r.l.length = m := ⟨_, rfl⟩
      have hvs : reqVs r q = [Value.string X0, .string X1, .int .i64 r.p, .slice q.1 m1 q.2] := by unfold reqVs; rw [hX0, hX1, hm1]
      have HVS := hid hvs
      rw [hX0, hX1, hm1]
      clear hX0 hX1 hm1 hvs
      have hb3 := (Below.refl w2.heap.size w2).alloc (Nat.le_refl _) (.cells #[.string X0, .string X1, .int .i64 r.p, .slice q.1 m1 q.2] 61)
      have HX3 := hid (Box4.new w2 (.string X0) (.string X1) (.int .i64 r.p) (.slice q.1 m1 q.2))
      have HT3 := hid (HT2.out.next hb3)
      have HI3 := hid (HI2.out.under hb3)
      have HIN3 : Hid (e0 = 0 → ReqIn (w2.alloc (.cells #[.string X0, .string X1, .int .i64 r.p, .slice q.1 m1 q.2] 61)) (fun k => wr.heap.size ≤ k ∧ k < (w2.alloc (.cells #[.string X0, .string X1, .int .i64 r.p, .slice q.1 m1 q.2] 61)).heap.size) r q) := hid (fun h0 => ((HIN.out h0).kept (fun k hk => hb3.block k hk.2)).mono (fun k hk => ⟨hk.1, Nat.lt_of_lt_of_le hk.2 hb3.size⟩))
      clear hb3
      go_upto_region 8 with fail
      generalize w2.heap.size = T at HX3 ⊢
      generalize w2.alloc (.cells #[.string X0, .string X1, .int .i64 r.p, .slice q.1 m1 q.2] 61) = w3 at HX3 HT3 HI3 HIN3 ⊢
      clear HT2 HI2 HIN
      by_cases he : e0 = 0
      · subst he
        have hrec : ∀ ps, recM (rs, ps) (line, fs) = (rs ++ [r], ps) := by
          rcases HONE.out with ⟨h, _⟩ | ⟨h, _⟩ | ⟨_, h⟩
          · exact absurd rfl h
          · exact absurd rfl h
          · exact h
        have HSTF : Hid (recsM (l.take (i + 1)) = (rs ++ [r], ps)) := hid (by rw [HST.out, hrec])
        have HINR := hid (HIN3.out rfl)
        obtain ⟨Lr0, hL0, ho0, hr0⟩ := HI3.out.row
        have hl0 : Lr0.length = n1 := by rw [HN1.out, ← hL0, List.length_map]
        rw [hl0] at ho0
        have HO0 := hid ho0
        have HL0 := hid hL0
        have HLL0 := hid hl0
        have HRR := hid hr0
        have HMX : Hid (n1 + 1 ≤ maxLen) := hid (by unfold maxLen; omega)
        have HBY : Hid ((n1 + 1) * 64 ≤ 140737488355328) := hid (by omega)
        have HN5 : Hid (∀ (j : Nat) (u : Value), [Value.string X0, .string X1, .int .i64 r.p, .slice q.1 m1 q.2][j]? = some u → (w3.alloc (.cells #[.string X0, .string X1, .int .i64 r.p, .slice q.1 m1 q.2] 61)).cell? ((⟨w3.heap.size, 0, none⟩ : Addr).add j) = some u) := hid (four_cellsQ w3 _ _ _ _)
        have HON : Hid (∀ u ∈ [Value.string X0, .string X1, .int .i64 r.p, .slice q.1 m1 q.2], u.oneCell' = true) := hid (by rw [← HVS.out]; exact req_one r q)
        have hwc := HI3.out.below.size
        have HW4S : Hid (w.heap.size ≤ (w3.alloc (.cells #[.string X0, .string X1, .int .i64 r.p, .slice q.1 m1 q.2] 61)).heap.size) := hid (by simp; omega)
        have hoc := HT3.out.o.size
        obtain ⟨z0, z1, z2, z3⟩ := HX3.out.cells
        clear hrec hL0 ho0 hr0 hl0
        go_wp2_with (at_builtin; refine wpList_append_own_at _ rfl _ _ 22 rfl w.heap.size 61 i5 (.agg #[.string ⟨#[]⟩, .string ⟨#[]⟩, .int .i64 0, .slice none 0 0]) 4 64 Tryz.underlying22 hi5 hz5 hs5 hb5 rfl (by decide) _ n1 (reqVals Lr0) rfl (World.ownsRow.alloc HO0.out _) ⟨w3.heap.size, 0, none⟩ 1 1 [Value.string X0, .string X1, .int .i64 r.p, .slice q.1 m1 q.2] rfl rfl HN5.out HON.out HMX.out HBY.out HW4S.out ?_)
        intro v' w5 hown' hgrow hnil hat
        obtain ⟨g', cap', rfl⟩ := ownsRow_succ (k := n1) hown'
        rw [← HVS.out] at hown'
        have hI5 := RInvV.room (C := wr.heap.size) HI3.out HINR.out hwz HL1.out HL2.out HL3.out HL0.out (by rw [HLL0.out]; exact HO0.out) HRR.out (v1' := .slice (some ⟨g', 0, none⟩) (n1 + 1) cap') (by rw [HLL0.out]; exact hown') (grownBy_of_alloc hgrow) (hat.imp id (fun h => ⟨_, h, by simp⟩))
        have HI5 := hid hI5
        have hg5 := grownBy_of_alloc hgrow
        have HT5 : Hid (w5.cell? ⟨fb, fo + i * 2, none⟩ = some (.int .i64 line)) := hid (by
          have hk := hg5.block fb (Nat.lt_of_lt_of_le HT3.out.z HT3.out.o.size) (fun e => by have := (own_lt HO0.out fb e.symm).1; omega)
          exact (World.cell?_of_block (w := w3) hk).trans HT3.out.c0)
        obtain ⟨xs3, ho3⟩ := hI5.lines
        have HO3 := hid ho3
        have HMX3 : Hid (n3 + 1 ≤ maxLen) := hid (by unfold maxLen; omega)
        have HBY3 : Hid ((n3 + 1) * 8 ≤ 140737488355328) := hid (by omega)
        have HN6 : Hid (∀ (j : Nat) (u : Value), [Value.int .i64 line][j]? = some u → (w5.alloc (.cells #[.int .i64 line] 3)).cell? ((⟨w5.heap.size, 0, none⟩ : Addr).add j) = some u) := hid (one_cellQ w5 _ 3)
        have HON6 : Hid (∀ u ∈ [Value.int .i64 line], u.oneCell' = true) := hid (by intro u hu; rw [List.mem_singleton] at hu; subst hu; rfl)
        have hw5 := hI5.below.size
        have HW6S : Hid (w.heap.size ≤ (w5.alloc (.cells #[.int .i64 line] 3)).heap.size) := hid (by simp; omega)
        have y0 := HT5.out
        clear hI5 hown' hgrow hnil hat z0 z1 z2 z3 hg5 ho3
        go_wp2_with (at_builtin; refine wpList_append_own_at _ rfl _ _ 44 rfl w.heap.size 3 i3 (.int .i64 0) 1 8 Tryz.underlying44 hi3 hz3 hs3 hb3 rfl (by decide) _ n3 xs3 rfl (World.ownsRow.alloc HO3.out _) ⟨w5.heap.size, 0, none⟩ 1 1 [Value.int .i64 line] rfl rfl HN6.out HON6.out HMX3.out HBY3.out HW6S.out ?_)
        intro v' w6 hown' hgrow hnil hat
        obtain ⟨g6, cap6, rfl⟩ := ownsRow_succ (k := n3) hown'
        have hI6 := RInvV.line HI5.out hown' (grownBy_of_alloc hgrow) (hat.imp id (fun h => ⟨_, h, by simp⟩))
        have HI6 : Hid (RInvV w (recsM (l.take (i + 1))).1 (recsM (l.take (i + 1))).2 (.slice (some ⟨g', 0, none⟩) (n1 + 1) cap') (.slice (some ⟨g6, 0, none⟩) (n3 + 1) cap6) (.slice A2 n2 c2) (n3 + 1) w6) := hid (by rw [HSTF.out]; exact hI6)
        clear hI6 hown' hgrow hnil hat y0
        go_wp2_with fail
        go_roundw
        case rel => exact ⟨i + 1, _, _, _, _, _, _, _, _, _, rfl, rfl, rfl, by go_num, by omega, by omega, HI6⟩
        case measure => simp [RowKit.intOf]; omega
      · have hne : (e0 != 0) = true := by simpa using he
        obtain ⟨col, hfd, hrec⟩ : ∃ col, Calls Tryz.prog 71 #[.agg #[.int .i64 line, .slice A' F c'], .int .i64 k, .int .i64 e0] w3 (FoundOut (.agg #[.int .i64 0, .int .i64 line, .int .i64 col, .int .i64 e0]) w3) ∧ ∀ ps, recM (rs, ps) (line, fs) = (rs, ps ++ [(line, col, e0)]) := by
          rcases HONE.out with ⟨_, rfl, h⟩ | ⟨_, ⟨j, hj, hj5, rfl, h⟩⟩ | ⟨h, _⟩
          · exact ⟨0, foundW_any line e0 A' F c' w3, h⟩
          · refine ⟨fs[j].2.1, ?_, h⟩
            have hz2 := HBW.out.size
            have hz3 := HT3.out.o.size
            have h' := foundA_any line e0 j A' fs c' w3 ((HFI.out.below (HT3.out.o.mono hz2)).mono (fun k hk => by omega)) hj hj5
            rw [HF.out] at h'
            exact h'
          · exact absurd h he
        have HSTF : Hid (recsM (l.take (i + 1)) = (rs, ps ++ [(line, col, e0)])) := hid (by rw [HST.out, hrec])
        have HFD := hid hfd
        have y0 := HT3.out.c0
        have y1 := HT3.out.c1
        have hpz : ps.length = n2 := by
          rcases HI3.out.probs.2 with ⟨hv, h0⟩ | ⟨g, cap, cur, hv, _⟩
          · injection hv with _ h1 _; omega
          · injection hv with _ h1 _; omega
        have hn2 : n2 ≤ 1073741824 := by omega
        have HPZ := hid hpz
        clear hfd hrec hpz he
        go_wp2_with fail
        refine HFD.out.mono ?_
        rintro e w4 ⟨rfl, hb4⟩
        have hI4 := HI3.out.under hb4
        have HI4 := hid hI4
        have HMX : Hid (n2 + 1 ≤ maxLen) := hid (by unfold maxLen; omega)
        have HBY : Hid ((n2 + 1) * 32 ≤ 140737488355328) := hid (by omega)
        have hprow : ProbsRow w4 w.heap.size (.slice A2 n2 c2) ps := hI4.probs
        unfold ProbsRow at hprow
        rw [HPZ.out] at hprow
        have HPR := hid hprow
        have HN4 : Hid (∀ (j : Nat) (u : Value), (probVs (line, col, e0))[j]? = some u → (w4.alloc (.cells #[.int .i64 0, .int .i64 line, .int .i64 col, .int .i64 e0] 80)).cell? ((⟨w4.heap.size, 0, none⟩ : Addr).add j) = some u) := hid (four_new w4 0 line col e0 80)
        have HON : Hid (∀ u ∈ probVs (line, col, e0), u.oneCell' = true) := hid (times_one (0, line, col, e0))
        have hw4 := hI4.below.size
        have HW3S : Hid (w.heap.size ≤ (w4.alloc (.cells #[.int .i64 0, .int .i64 line, .int .i64 col, .int .i64 e0] 80)).heap.size) := hid (by simp; omega)
        clear hprow hI4 hb4 y0 y1
        go_wp2_with (at_builtin; refine wpList_append_own_at _ rfl _ _ 32 rfl w.heap.size 80 i4 (.agg #[.int .i64 0, .int .i64 0, .int .i64 0, .int .i64 0]) 4 32 Tryz.underlying32 hi4 hz4 hs4 hb4 rfl (by decide) _ n2 (probVals ps) rfl (World.ownsRow.alloc HPR.out _) ⟨w4.heap.size, 0, none⟩ 1 1 (probVs (line, col, e0)) rfl rfl HN4.out HON.out HMX.out HBY.out HW3S.out ?_)
        intro v' w5 hown' hgrow hnil hat
        obtain ⟨g', cap', rfl⟩ := ownsRow_succ (k := n2) hown'
        have hI5 := HI4.out.prob (p := (line, col, e0)) (v2' := .slice (some ⟨g', 0, none⟩) (n2 + 1) cap') (by unfold ProbsRow; rw [probVals_app, List.length_append, HPZ.out]; simpa [probVals] using hown') (grownBy_of_alloc hgrow) (hat.imp id (fun h => ⟨_, h, by simp⟩))
        have HI5 : Hid (RInvV w (recsM (l.take (i + 1))).1 (recsM (l.take (i + 1))).2 (.slice A1 n1 c1) (.slice A3 n3 c3) (.slice (some ⟨g', 0, none⟩) (n2 + 1) cap') n3 w5) := hid (by rw [HSTF.out]; exact hI5)
        clear hI5 hown' hgrow hnil hat
        go_wp2_with fail
        go_roundw
        case rel => exact ⟨i + 1, _, _, _, _, _, _, _, _, _, rfl, rfl, rfl, by go_num, by omega, by omega, HI5⟩
        case measure => simp [RowKit.intOf]; omega
    · have hltz : ¬ (i : Int) < (l.length : Int) := by omega
      rw [List.take_of_length_le (by omega)] at hI
      obtain ⟨⟨Lr, hL, ho, hr⟩, _, hp, hb⟩ := hI.out
      have hll : Lr.length = (recsM l).1.length := by rw [← hL, List.length_map]
      rw [hll] at ho
      have HR1 : Hid (ReqRow wr w.heap.size (fun k => w.heap.size ≤ k ∧ k < wr.heap.size) (.slice A1 n1 c1) (recsM l).1) := hid ⟨Lr, hL, ho, fun p hp' => (hr p hp').mono (fun k hk => ⟨by omega, hk.2.1⟩)⟩
      have HR2 := hid hp
      have HR3 := hid hb
      clear hL ho hr hp hb hll
      go_wp2
      go_ret3
      exact ⟨_, _, _, rfl, HR1.out, HR2.out, HR3.out⟩
set_option maxHeartbeats 4000000 in
theorem qrread_any (A : Option Addr) (l : List RecD) (c : Nat) (w : World) (h : RecsIn w (fun k => k < w.heap.size) A l) (hl : l.length ≤ 1073741824)
    (hsz : ∀ x ∈ l, ∀ f ∈ x.2, f.1.length ≤ 2097152) :
    Calls Tryz.prog 11 #[.slice A l.length c] w (ReadOut (recsM l) w) := by
  have CL := hid (qrlines_any A l c w h hl hsz)
  clear h hsz
  unfold ReadOut
  go_enter Tryz.func11, Tryz.ntmps11
  go_wp2_with fail
  refine CL.out.mono ?_
  rintro e w2 ⟨v1, v3, v2, rfl, h1, h2, h3⟩
  have H1 := hid h1
  have H2 := hid h2
  have H3 := hid h3
  clear h1 h2 h3 CL
  go_wp2
  go_ret2
  exact ⟨_, _, rfl, H1.out, H2.out, H3.out⟩
end Go.Proofs.YtlgmanbilaminaaGreatDoor.S12
