/-
  The walk of CoursefileReturns. Conditions: the numbers lie in memory as a slice of ints; the variables hold what their text lays.
-/
import Derived.Test.YtigdcgklpapfbaaGreatDoorVR40
set_option linter.unusedVariables false
namespace Go.Proofs.YtigdcgklpapfbaaGreatDoor.S10
open Go Go.Proofs Go.RowKit Go.Lib Go.Proofs.YtigdcgklpapfbaaGreatDoor

/-- A class of the list besides. -/
structure RXC (w0 : World) (GB M : Nat) (A : Option Addr) (ls : List ClassD) (d s b m : Int) (fb p : Nat) (x : ClassD) (q : ClassA) (w : World) : Prop where
  r : RKC w0 GB M A ls d s b m w
  c : ClassAt w fb p x q
  hi : ClassIn w (fun k => k < M) x q
  z : fb < M
theorem RXC.next {w0 w w' : World} {GB M fb p : Nat} {A : Option Addr} {ls : List ClassD} {d s b m : Int} {x : ClassD} {q : ClassA} (h : RXC w0 GB M A ls d s b m fb p x q w) (k : Below w.heap.size w w') : RXC w0 GB M A ls d s b m fb p x q w' :=
  ⟨h.r.next k, h.c.kept (k.block _ (Nat.lt_of_lt_of_le h.z h.r.z)), h.hi.kept (fun j hj => k.block j (Nat.lt_of_lt_of_le hj h.r.z)), h.z⟩
/-- And a time. -/
structure RTC (w0 : World) (GB M : Nat) (A : Option Addr) (ls : List ClassD) (d s b m : Int) (fb p : Nat) (x : ClassD) (q : ClassA) (tb tp tq : Nat) (t0 t1 t2 t3 : Int) (LT : List TimeD) (w : World) : Prop where
  x : RXC w0 GB M A ls d s b m fb p x q w
  t0 : w.cell? ⟨tb, tp, none⟩ = some (.int .i64 t0)
  t1 : w.cell? ⟨tb, tp + 1, none⟩ = some (.int .i64 t1)
  t2 : w.cell? ⟨tb, tp + 2, none⟩ = some (.int .i64 t2)
  t3 : w.cell? ⟨tb, tp + 3, none⟩ = some (.int .i64 t3)
  tz : tb < w.heap.size
  ti : TimesIn w (fun j => j < w.heap.size) (some ⟨tb, tq, none⟩) LT
theorem RTC.next {w0 w w' : World} {GB M fb p tb tp tq : Nat} {LT : List TimeD} {A : Option Addr} {ls : List ClassD} {d s b m t0 t1 t2 t3 : Int} {x : ClassD} {q : ClassA} (h : RTC w0 GB M A ls d s b m fb p x q tb tp tq t0 t1 t2 t3 LT w) (k : Below w.heap.size w w') : RTC w0 GB M A ls d s b m fb p x q tb tp tq t0 t1 t2 t3 LT w' := by
  exact ⟨h.x.next k, (World.cell?_of_block (w := w) (k.block tb h.tz)).trans h.t0, (World.cell?_of_block (w := w) (k.block tb h.tz)).trans h.t1, (World.cell?_of_block (w := w) (k.block tb h.tz)).trans h.t2, (World.cell?_of_block (w := w) (k.block tb h.tz)).trans h.t3, Nat.lt_of_lt_of_le h.tz k.size, (h.ti.kept (fun j hj => k.block j hj)).mono (fun j hj => Nat.lt_of_lt_of_le hj k.size)⟩
set_option maxHeartbeats 32000000 in
set_option maxRecDepth 100000 in
theorem creturns_any (A : Option Addr) (L : List Int) (c PB po pc FB fo fc : Nat) (hlen : L.length ≤ 9223372036854775807) (w : World) (hE : Env7 w) (h : IntsIn w w.heap.size A L)
    (hp : PeopleAt w PB po pc) (hPB : PB < w.heap.size) (hf : FeatAt w FB fo fc) (hFB : FB < w.heap.size) :
    Calls Tryz.prog 6 #[.slice A L.length c] w fun e w' => e = .returned (.bool true) ∧ Below w.heap.size w w' := by
  have cL := light_any A L.length c w
  have hGz : 0 < w.heap.size := World.block_lt_of_cell? w _ hp.c0
  have hGf : 3 < w.heap.size := World.block_lt_of_cell? w _ hf.c0
  have HFT := hid (fun w' (hb : Below w.heap.size w w') => hf.kept (w' := w') (hb.block _ hGf) (hb.block _ hFB))
  have cK := hid (fun w' (hb : Below w.heap.size w w') => awake_any w' (hE.below hb (Nat.le_refl _)))
  have cK' := cK.out
  unfold Says at cK'
  have cK := hid cK'
  have HE := hid (fun w' (hb : Below w.heap.size w w') => hE.below hb (Nat.le_refl _))
  have HPP := hid (fun w' (hb : Below w.heap.size w w') => hp.kept (w' := w') (hb.block _ hGz) (hb.block _ hPB))
  clear cK' hp hf
  by_cases hl : L.length ≤ 400
  · rw [decide_eq_true hl] at cL
    have cR := hid (fun w h => roll_any A L c hl w h)
    have HI := hid h
    clear hE h
    go_enter Tryz.func6, Tryz.ntmps6
    go_wp2_with fail
    refine cL.mono ?_
    rintro e w' ⟨rfl, rfl⟩
    go_wp2_with fail
    refine (cR.out _ HI.out).mono ?_
    rintro e w1 ⟨rfl, hd1, hb1⟩
    have hgl := hd1.lt
    have HB : Hid (∀ W k, DE w1 w.heap.size c A L k W → Below w.heap.size w W) := hid (fun W k he => hb1.trans (he.toBelow (Nat.le_of_lt hgl) (Nat.le_refl _)))
    have cG := hid (grid_any w.heap.size c 0 A L w1 hd1)
    clear hd1 hb1 cL cR HI
    go_wp2_with fail
    refine cG.out.mono ?_
    rintro e w2 ⟨d, s, b, m, k2, rfl, hmg, he2⟩
    have HN := hid (fun (W : World) k n hn (h : DiceAt W w.heap.size A L c k) => next_at w.heap.size c k A L n hn W h)
    have cN := HN.out _ _ 8 (by omega) he2.d
    obtain ⟨r, hr⟩ : ∃ r, rollV L k2 8 = r := ⟨_, rfl⟩
    have hrr := rollV_range L k2 8 (by omega)
    rw [hr] at cN hrr
    generalize rollK L k2 = k3 at cN
    obtain ⟨q, rfl⟩ : ∃ q : Nat, r = (q : Int) := ⟨r.toNat, by omega⟩
    obtain ⟨n, hn⟩ : ∃ n, q + 1 = n := ⟨_, rfl⟩
    have hn1 : 1 ≤ n := by omega
    have hn2 : n ≤ 8 := by omega
    have hni : 1 + (q : Int) = (n : Int) := by omega
    have HE2 := hid he2
    have CN := hid cN
    have HMG := hid hmg
    have g1 : 1 ≤ d ∧ d ≤ 5 := hmg.1
    have g2 : 2 ≤ s ∧ s ≤ 8 := hmg.2.1
    clear cN he2 hr hrr hn cG hmg HN
    go_wp2_with fail
    refine CN.out.mono ?_
    rintro e w3 ⟨rfl, hd3, hR3⟩
    have he3 := HE2.out.next hd3 hR3
    have he4 := he3.alloc (.cells #[.int .i64 d, .int .i64 s, .int .i64 b, .int .i64 m] 24)
    have hc4 := Cells4.new w3 d s b m 24
    have hg3 := he3.p.size
    have HE4 := hid he4
    have HC4 := hid hc4
    clear he3 he4 hc4 hd3 hR3 CN HE2
    obtain ⟨g0, g1', g2', g3', _⟩ := HC4.out.box
    have hne : w3.heap.size ≠ w.heap.size := by omega
    have hb4 := HB.out _ _ HE4.out
    have hcg : CG w1 w.heap.size c A L w3.heap.size d s b m (w3.alloc (.cells #[.int .i64 d, .int .i64 s, .int .i64 b, .int .i64 m] 24)) := ⟨⟨_, HE4.out⟩, HC4.out, hne⟩
    have hb4 := HB.out _ _ HE4.out
    have CS : Hid (∀ W, CG w1 w.heap.size c A L w3.heap.size d s b m W → Calls Tryz.prog 28 #[.pointer (some ⟨w.heap.size, 0, none⟩), .agg #[.int .i64 d, .int .i64 s, .int .i64 b, .int .i64 m], .int .i64 (n : Int)] W fun e w' => ∃ (names : List Str) (As : Option Addr) (cs : Nat), e = .returned (.slice As names.length cs) ∧ (names.Sublist peopleS ∧ StaffIn w' As names) ∧ CG w1 w.heap.size c A L w3.heap.size d s b m w') := hid (fun W hW => by
      obtain ⟨kk, hd⟩ := hW.e
      refine (dstaff_any w.heap.size c kk PB po pc A L d s b m n hn1 (by omega) (by omega) (by omega) (by omega) (by omega) W hd.d (HPP.out _ (HB.out _ _ hd)) hGz hPB).mono ?_
      rintro e w' ⟨ls, v, k', rfl, hok, hrow, he⟩
      obtain ⟨A5, c5, rfl, _, _, hin5⟩ := hrow.lectsIn
      refine ⟨ls.map (·.1), A5, c5, by rw [List.length_map], ⟨staff_names hok, staffIn_of hin5 (fun k hk => by rcases hk with h | h; exact h.2; exact h.2)⟩, hW.played he⟩)
    have CL : Hid (∀ W (names : List Str) (As : Option Addr) (cs : Nat), names.Sublist peopleS → StaffIn W As names → CG w1 w.heap.size c A L w3.heap.size d s b m W → Calls Tryz.prog 27 #[.pointer (some ⟨w.heap.size, 0, none⟩), .agg #[.int .i64 d, .int .i64 s, .int .i64 b, .int .i64 m], .int .i64 (n : Int), .slice As names.length cs, .int .i64 6] W fun e w' => ∃ (ls : List ClassD) (Al : Option Addr) (cl : Nat), e = .returned (.slice Al ls.length cl) ∧ (ClassesOk d s n names ls ∧ ClassesIn w' (fun k => k < w'.heap.size) Al ls) ∧ CG w1 w.heap.size c A L w3.heap.size d s b m w') := hid (fun W names As cs hsub hst hW => by
      obtain ⟨kk, hd⟩ := hW.e
      have hlen : names.length ≤ 3 := hsub.length_le
      refine (classes_any w.heap.size c kk FB fo fc A L d s b m n 6 hn1 (by omega) (by omega) (by omega) (by omega) (by omega) (by omega) As names cs (by omega) W hd.d hst (HFT.out _ (HB.out _ _ hd)) hGf hFB).mono ?_
      rintro e w' ⟨ls, v, k', rfl, _, hok, hrow, he⟩
      obtain ⟨A5, c5, rfl, _, _, hin5⟩ := hrow.classesIn
      exact ⟨ls, A5, c5, rfl, ⟨hok, hin5.mono (fun k hk => by rcases hk with h | h; exact h.2; exact h.2)⟩, hW.played he⟩)
    have HCG := hid hcg
    clear hcg hb4 g0 g1' g2' g3'
    go_upto_region 5 with fail
    generalize w3.alloc (.cells #[.int .i64 d, .int .i64 s, .int .i64 b, .int .i64 m] 24) = w4 at HCG HE4 HC4 ⊢
    generalize w3.heap.size = GB at HCG HC4 CS CL hne ⊢
    go_cut [6] (fun v6 W => ∃ (names : List Str) (ls : List ClassD) (Al : Option Addr) (cl : Nat), v6 = .slice Al ls.length cl ∧ Hid (names.Sublist peopleS) ∧ Hid (ClassesOk d s n names ls) ∧ Hid (ClassesIn W (fun k => k < W.heap.size) Al ls) ∧ Hid (CG w1 w.heap.size c A L GB d s b m W))
    case first =>
      have hk' := HCG.out.next hgl (Below.refl _ w4).drew
      go_region_held3 (fun w' => w'.cell? ⟨GB, 0, none⟩ = some (.int .i64 d) ∧ w'.cell? ⟨GB, 1, none⟩ = some (.int .i64 s) ∧ w'.cell? ⟨GB, 2, none⟩ = some (.int .i64 b) ∧ w'.cell? ⟨GB, 3, none⟩ = some (.int .i64 m))
        (first | with_reducible exact hk'.cells)
        (first
          | (go_at_call 28; refine (CS.out _ hk').mono ?_; rintro e wS ⟨names, As, cs, rfl, hsn, hk'⟩; have HSN := hid hsn; clear hsn)
          | (go_at_call 27; refine (CL.out _ names As cs HSN.out.1 HSN.out.2 hk').mono ?_; rintro e wL ⟨ls, Al, cl, rfl, hlo, hk'⟩; have HLO := hid hlo; clear hlo))
      all_goals
        go_wp2_with fail
        go_meet
        exact ⟨names, ls, Al, cl, rfl, hid HSN.out.1, hid HLO.out.1, hid HLO.out.2, hid hk'⟩
    case rest =>
      obtain ⟨names, ls, Al, cl, rfl, HNM, HOK, HIN, HCW⟩ := hcut
      have hbW : Below w.heap.size w wc := by
        obtain ⟨kk, hd⟩ := HCW.out.e
        exact HB.out _ _ hd
      have hrk : RKC w GB wc.heap.size Al ls d s b m wc := ⟨hbW, HCW.out.x.box, HIN.out, Nat.le_refl _⟩
      have hst : ∀ x ∈ ls, ∀ t ∈ x.starts, t.2 ≤ 9223372036854775807 := fun x hx t ht => by
        obtain ⟨j, hj, rfl⟩ := List.mem_iff_getElem.1 hx
        have k := HOK.out.at_ j _ (List.getElem?_eq_getElem hj)
        have := (k.starts.2.2.2 t ht).2.2
        have := k.len.1
        omega
      have hfew : Few names := few_people.sub HNM.out
      obtain ⟨hval, hread⟩ := classes_made HMG.out hn1 (by omega) hfew HOK.out
      have hsm := class_small (b := b) (m := m) HNM.out HOK.out
      have cW := kwrite_any d s b m n Al ls cl wc HIN.out hst (HE.out _ hbW)
      have hwr : writeK d s b m n ls = (ls.map (rowK d s b m n), 0) := by unfold writeK; rw [if_neg (by simp [hval])]
      rw [hwr] at cW
      have hl6 := HOK.out.len
      have hrl : (ls.map (rowK d s b m n)).length = ls.length := List.length_map _
      have hpl : (plainM (ls.map (rowK d s b m n))).length = ls.length := by rw [plainM_len, hrl]
      have hpsz : ∀ x ∈ plainM (ls.map (rowK d s b m n)), ∀ f ∈ x.2, f.1.length < 4294967281 := fun x hx f hf => by
        obtain ⟨r, hr, hfr⟩ := plainM_mem hx f hf
        have := (hsm r hr).2 f.1 hfr
        omega
      obtain ⟨rows, hrows⟩ : ∃ R, ls.map (rowK d s b m n) = R := ⟨_, rfl⟩
      rw [hrows] at cW hread hsm hrl hpl hpsz
      have HP : Hid (∀ (W : World) (A6 : Option Addr) (c6 M6 : Nat), M6 ≤ W.heap.size → RowsIn W (fun k => k < M6) A6 rows → Calls Tryz.prog 32 #[.slice A6 ls.length c6] W fun e w' =>
          (∃ (A7 : Option Addr) (c7 : Nat), e = .returned (.slice A7 ls.length c7) ∧ RecsIn w' (fun k => k < w'.heap.size) A7 (plainM rows)) ∧ Below W.heap.size W w') := hid (fun W A6 c6 M6 hM hr => by
        have cP := plain_any A6 rows c6 M6 W hM hr (by omega) (fun r hr => by have := (hsm r hr).1; omega) (fun r hr x hx => by have := (hsm r hr).2 x hx; omega)
        rw [hrl] at cP
        refine cP.mono ?_
        rintro e w' ⟨⟨v, rfl, hrr⟩, hb⟩
        obtain ⟨A7, c7, rfl, _, _, hri⟩ := hrr.recsIn
        rw [hpl]
        exact ⟨⟨A7, c7, rfl, hri.mono (fun k hk => hk.2)⟩, hb⟩)
      have HRD : Hid (∀ (W : World) (A7 : Option Addr) (c7 : Nat), RecsIn W (fun k => k < W.heap.size) A7 (plainM rows) → Below w.heap.size w W → Calls Tryz.prog 19 #[.slice A7 ls.length c7, .agg #[.int .i64 d, .int .i64 s, .int .i64 b, .int .i64 m], .int .i64 (n : Int)] W fun e w' =>
          (∃ (A8 : Option Addr) (c8 : Nat) (A9 : Option Addr) (c9 : Nat), e = .returned (.tuple #[.slice A8 ls.length c8, .slice A9 0 c9]) ∧ ClassesIn w' (fun k => k < w'.heap.size) A8 ls) ∧ Below W.heap.size W w') := hid (fun W A7 c7 hr hb => by
        have cR := readA_any d s b m n A7 (plainM rows) c7 W hr (by omega) hpsz (HE.out _ hb)
        rw [hread, hpl] at cR
        unfold ReadOut at cR
        refine cR.mono ?_
        rintro e w' ⟨v1, v2, rfl, hrm, hpr, hb'⟩
        obtain ⟨A8, c8, rfl, _, _, hin8⟩ := hrm.classesIn
        have hv2 : ∃ A9 c9, v2 = .slice A9 0 c9 := by
          rcases hpr.2 with ⟨hv, _⟩ | ⟨g, cap, cur, hv, _⟩
          · exact ⟨_, _, hv⟩
          · exact ⟨_, _, hv⟩
        obtain ⟨A9, c9, rfl⟩ := hv2
        exact ⟨⟨A8, c8, A9, c9, rfl, hin8.mono (fun k hk => by rcases hk with h | h; exact h.2; exact h.2)⟩, hb'⟩)
      unfold WriteOut at cW
      have CW := hid cW
      have HRK := hid hrk
      have HRL := hid hrl
      have HL6 := hid hl6
      have M5 : Hid (ClassesOk d s n names ls) := HOK
      obtain ⟨M0, hM0⟩ : ∃ k, wc.heap.size = k := ⟨_, rfl⟩
      rw [hM0] at HRK
      clear hbW hrk hst hfew hval hread hsm cW hwr hl6 hrl hpl hpsz hrows hM0 HCW HIN HCG HE4 HC4 CS CL HB HE HPP HFT hne hGz hGf hgl hg3
      obtain ⟨g0, g1', g2', g3'⟩ := HRK.out.cells
      go_wp2_with fail
      refine CW.out.mono ?_
      rintro e w6 ⟨⟨v6, L6, hL6, rfl, hrr6⟩, hb6⟩
      obtain ⟨A6, c6, rfl, _, _, hri6⟩ := hrr6.rowsIn
      have hl6 : L6.length = ls.length := by rw [← HRL.out, ← hL6, List.length_map]
      rw [hL6] at hri6
      rw [hl6]
      have HRI6 := hid hri6
      have HRK6 := hid (HRK.out.next hb6)
      clear hrr6 hri6 hb6 hL6 hl6 CW HRK g0 g1' g2' g3' HRL
      go_upto_region 7 with fail
      have hk' : RKC w GB M0 Al ls d s b m w6.drew := HRK6.out.next (Below.refl _ w6).drew
      have hri : RowsIn w6.drew (fun k => k < w6.heap.size) A6 rows := (HRI6.out.kept (fun k hk => (Below.refl w6.heap.size w6).drew.block k hk.2)).mono (fun k hk => hk.2)
      have HRI := hid hri
      have HZ : Hid (w6.heap.size ≤ w6.drew.heap.size) := hid (Below.refl w6.heap.size w6).drew.size
      clear hri
      go_cut [9, 10] (fun v9 v10 W => ∃ (A8 : Option Addr) (c8 : Nat) (A9 : Option Addr) (c9 : Nat), v9 = .slice A8 ls.length c8 ∧ v10 = .slice A9 0 c9 ∧ Hid (RKC w GB M0 Al ls d s b m W) ∧ Hid (ClassesIn W (fun k => k < W.heap.size) A8 ls))
      case first =>
        go_region_held3 (fun w' => w'.cell? ⟨GB, 0, none⟩ = some (.int .i64 d) ∧ w'.cell? ⟨GB, 1, none⟩ = some (.int .i64 s) ∧ w'.cell? ⟨GB, 2, none⟩ = some (.int .i64 b) ∧ w'.cell? ⟨GB, 3, none⟩ = some (.int .i64 m))
          (first | with_reducible exact hk'.cells)
          (first
            | (go_at_call 32; refine (HP.out _ A6 c6 w6.heap.size HZ.out HRI.out).mono ?_; rintro e wP ⟨⟨A7, c7, rfl, hrc⟩, hbP⟩; have HRC := hid hrc; have hk' := hk'.next hbP; clear hrc hbP)
            | (go_at_call 19; refine (HRD.out _ A7 c7 HRC.out hk'.bw).mono ?_; rintro e wR ⟨⟨A8, c8, A9, c9, rfl, hin8⟩, hbR⟩; have HIN8 := hid hin8; have hk' := hk'.next hbR; clear hin8 hbR))
        all_goals
          go_wp2_with fail
          go_meet
          exact ⟨A8, c8, A9, c9, rfl, rfl, hid hk', HIN8⟩
      case rest =>
        obtain ⟨A8, c8, A9, c9, rfl, rfl, HK8, HIN8⟩ := hcut
        clear HRK6 HRI6 HRI HZ HP HRD hk'
        go_wp2_with fail
        refine (cK.out _ HK8.out.bw).mono ?_
        rintro e w8 ⟨rfl, hb8⟩
        have HK9 := hid (HK8.out.next hb8)
        have HIN9 := hid ((HIN8.out.below hb8).mono (fun k hk => Nat.lt_of_lt_of_le hk hb8.size))
        clear hb8 HK8 HIN8
        have CSM := hid (same10_any Al A8 ls cl c8 w8 (HK9.out.l.mono (fun k hk => Nat.lt_of_lt_of_le hk HK9.out.z)) HIN9.out (by have := HL6.out; omega))
        go_wp2_with fail
        refine CSM.out.mono ?_
        rintro e w9 ⟨rfl, hb9⟩
        have HK10 := hid (HK9.out.next hb9)
        clear hb9 HK9 HIN9 CSM
        have hl66 := HL6.out
        go_wp2
        go_loopw [11] (fun iv wr => ∃ i : Nat, iv = .int .i64 (i : Int) ∧ i ≤ ls.length ∧ Hid (RKC w GB M0 Al ls d s b m wr)) (fun iv _ => ls.length - (RowKit.intOf iv).toNat)
        case atStart => exact ⟨0, rfl, Nat.zero_le _, HK10⟩
        case round =>
          obtain ⟨i, rfl, hi, hK⟩ := hrel
          clear HK10
          by_cases hlt : i < ls.length
          · have hltz : (i : Int) < (ls.length : Int) := by omega
            have dk : decide (ls.length ≤ i) = false := decide_eq_false (by omega)
            obtain ⟨fb, fo, q, rfl, hfb, hri, hc⟩ := hK.out.l.at_ hlt
            have hox := HOK.out.at_ i _ (List.getElem?_eq_getElem hlt)
            obtain ⟨x, hx⟩ : ∃ x, ls[i] = x := ⟨_, rfl⟩
            rw [hx] at hri hc hox
            obtain ⟨htl, htf⟩ := class_times HMG.out hn1 (by omega) hox
            have htot : x.pats.length * (startsOf d s x).length ≤ 4096 := by
              rw [show startsOf d s x = x.starts from if_neg hox.starts.1]
              have := Nat.mul_le_mul hox.pats.2.1 hox.starts.2.1
              omega
            have hle := timesC_le (d := d) (s := s) (b := b) (m := m) (x := x) (fun t ht => by have := (hox.starts.2.2.2 t ht).2.2; have := hox.len.1; have := g2; omega)
            have cT := fun W (hW : RXC w GB M0 (some ⟨fb, fo, none⟩) ls d s b m fb (fo + i * 9) x q W) => times_any d s b m x q W (hW.hi.mono (fun j hj => Nat.lt_of_lt_of_le hj hW.r.z)) htot
            have hk' : RXC w GB M0 (some ⟨fb, fo, none⟩) ls d s b m fb (fo + i * 9) x q wr := ⟨hK.out, hc, hri, hfb⟩
            have hps : x.pats.length ≤ 2 ∧ x.starts.length ≤ 3 := ⟨hox.pats.2.1, hox.starts.2.1⟩
            obtain ⟨LT, hLT⟩ : ∃ LT, timesC d s b m x = LT := ⟨_, rfl⟩
            rw [hLT] at cT htl htf hle
            obtain ⟨TN, hTN⟩ : ∃ TN, LT.length = TN := ⟨_, rfl⟩
            have HTN := hid hTN
            rw [hTN] at htl
            have CT : Hid (∀ W, RXC w GB M0 (some ⟨fb, fo, none⟩) ls d s b m fb (fo + i * 9) x q W → Calls Tryz.prog 11 #[.agg #[.string (ba x.code), .string (ba x.course), .string (ba x.part), .int .i64 x.len, .slice q.aP x.pats.length q.cP, .int .i64 x.seats, .slice q.aF x.feats.length q.cF, .slice q.aS x.staff.length q.cS, .slice q.aT x.starts.length q.cT], .agg #[.int .i64 d, .int .i64 s, .int .i64 b, .int .i64 m]] W fun e w' => ∃ At ct, e = .returned (.slice At TN ct) ∧ TimesIn w' (fun k => k < w'.heap.size) At LT ∧ RXC w GB M0 (some ⟨fb, fo, none⟩) ls d s b m fb (fo + i * 9) x q w') := hid (fun W hW => (cT W hW).mono fun e w' ⟨⟨v, he, hv⟩, hb⟩ => by
              obtain ⟨At, ct, rfl, _, _, hin⟩ := TimeRow.timesIn hv hle
              rw [hTN] at he
              exact ⟨At, ct, he, hin.mono (fun k hk => hk.2), hW.next hb⟩)
            have hT6 : TN ≤ 6 := by rw [htl]; exact Nat.mul_le_mul hps.1 hps.2
            have HTF := hid htf
            have HTL := hid (And.intro htl hps)
            clear hx hri hc hox htot hle cT hLT hTN htl htf hps hK
            go_upto_region 13 with fail
            go_region_held3 (fun w' => w'.cell? ⟨GB, 0, none⟩ = some (.int .i64 d) ∧ w'.cell? ⟨GB, 1, none⟩ = some (.int .i64 s) ∧ w'.cell? ⟨GB, 2, none⟩ = some (.int .i64 b) ∧ w'.cell? ⟨GB, 3, none⟩ = some (.int .i64 m) ∧ w'.cell? ⟨fb, fo + i * 9, none⟩ = some (.string (ba x.code)) ∧ w'.cell? ⟨fb, fo + i * 9 + 1, none⟩ = some (.string (ba x.course)) ∧ w'.cell? ⟨fb, fo + i * 9 + 2, none⟩ = some (.string (ba x.part)) ∧ w'.cell? ⟨fb, fo + i * 9 + 3, none⟩ = some (.int .i64 x.len) ∧ w'.cell? ⟨fb, fo + i * 9 + 4, none⟩ = some (.slice q.aP x.pats.length q.cP) ∧ w'.cell? ⟨fb, fo + i * 9 + 5, none⟩ = some (.int .i64 x.seats) ∧ w'.cell? ⟨fb, fo + i * 9 + 6, none⟩ = some (.slice q.aF x.feats.length q.cF) ∧ w'.cell? ⟨fb, fo + i * 9 + 7, none⟩ = some (.slice q.aS x.staff.length q.cS) ∧ w'.cell? ⟨fb, fo + i * 9 + 8, none⟩ = some (.slice q.aT x.starts.length q.cT))
              (first | exact ⟨hk'.r.g.c0, hk'.r.g.c1, hk'.r.g.c2, hk'.r.g.c3, hk'.c.c0, hk'.c.c1, hk'.c.c2, hk'.c.c3, hk'.c.c4, hk'.c.c5, hk'.c.c6, hk'.c.c7, hk'.c.c8⟩ | exact ⟨(hk'.next (Below.refl _ _).drew).r.g.c0, (hk'.next (Below.refl _ _).drew).r.g.c1, (hk'.next (Below.refl _ _).drew).r.g.c2, (hk'.next (Below.refl _ _).drew).r.g.c3, (hk'.next (Below.refl _ _).drew).c.c0, (hk'.next (Below.refl _ _).drew).c.c1, (hk'.next (Below.refl _ _).drew).c.c2, (hk'.next (Below.refl _ _).drew).c.c3, (hk'.next (Below.refl _ _).drew).c.c4, (hk'.next (Below.refl _ _).drew).c.c5, (hk'.next (Below.refl _ _).drew).c.c6, (hk'.next (Below.refl _ _).drew).c.c7, (hk'.next (Below.refl _ _).drew).c.c8⟩)
              (first
                | (go_at_call 11; refine (CT.out _ (hk'.next (Below.refl _ _).drew)).mono ?_; rintro e w' ⟨At, ct, rfl, hti, hk'⟩)
                | (go_at_call 11; refine (CT.out _ hk').mono ?_; rintro e w' ⟨At, ct, rfl, hti, hk'⟩))
            all_goals
              have HX1 := hid hk'
              have HTI := hid hti
              clear hk' hti CT
              go_wp2
              go_loopw [13] (fun kv wr2 => ∃ k : Nat, kv = .int .i64 (k : Int) ∧ k ≤ TN ∧ Hid (RXC w GB M0 (some ⟨fb, fo, none⟩) ls d s b m fb (fo + i * 9) x q wr2) ∧ Hid (TimesIn wr2 (fun j => j < wr2.heap.size) At LT)) (fun kv _ => TN - (RowKit.intOf kv).toNat)
              case atStart => exact ⟨0, rfl, Nat.zero_le _, HX1, HTI⟩
              case round =>
                obtain ⟨k, rfl, hk, hX, hTI⟩ := hrel
                clear HX1 HTI
                by_cases hkt : k < TN
                · have hktz : (k : Int) < (TN : Int) := by omega
                  have dk2 : decide (TN ≤ k) = false := decide_eq_false (by omega)
                  have hkl : k < LT.length := by rw [HTN.out]; exact hkt
                  obtain ⟨tb, tq, rfl, htb, a0, a1, a2, a3⟩ := hTI.out.at_ hkl
                  have hf := HTF.out _ (List.getElem_mem hkl)
                  obtain ⟨⟨t0, t1, t2, t3⟩, ht⟩ : ∃ t, LT[k] = t := ⟨_, rfl⟩
                  rw [ht] at a0 a1 a2 a3 hf
                  dsimp only at a0 a1 a2 a3 hf
                  obtain ⟨hf1, hf2⟩ := hf
                  have hk' : RTC w GB M0 (some ⟨fb, fo, none⟩) ls d s b m fb (fo + i * 9) x q tb (tq + k * 4) tq t0 t1 t2 t3 LT wr := ⟨hX.out, a0, a1, a2, a3, htb, hTI.out⟩
                  have cF := fun W => rfits_any d s b m n t0 t1 t2 t3 W
                  rw [hf1] at cF
                  unfold Says at cF
                  have CF : Hid (∀ W, RTC w GB M0 (some ⟨fb, fo, none⟩) ls d s b m fb (fo + i * 9) x q tb (tq + k * 4) tq t0 t1 t2 t3 LT W → Calls Tryz.prog 33 #[.agg #[.int .i64 d, .int .i64 s, .int .i64 b, .int .i64 m], .int .i64 (n : Int), .agg #[.int .i64 t0, .int .i64 t1, .int .i64 t2, .int .i64 t3]] W fun e w' => e = .returned (.int .i64 0) ∧ RTC w GB M0 (some ⟨fb, fo, none⟩) ls d s b m fb (fo + i * 9) x q tb (tq + k * 4) tq t0 t1 t2 t3 LT w') := hid (fun W hW => (cF W).mono fun e w' ⟨he, hb⟩ => ⟨he, hW.next hb⟩)
                  have hlx : t3 = x.len := hf2
                  subst hlx
                  clear cF hf1 ht hkl a0 a1 a2 a3 htb hX hTI
                  go_upto_region 17 with fail
                  go_region_held3 (fun w' => w'.cell? ⟨GB, 0, none⟩ = some (.int .i64 d) ∧ w'.cell? ⟨GB, 1, none⟩ = some (.int .i64 s) ∧ w'.cell? ⟨GB, 2, none⟩ = some (.int .i64 b) ∧ w'.cell? ⟨GB, 3, none⟩ = some (.int .i64 m) ∧ w'.cell? ⟨tb, tq + k * 4, none⟩ = some (.int .i64 t0) ∧ w'.cell? ⟨tb, tq + k * 4 + 1, none⟩ = some (.int .i64 t1) ∧ w'.cell? ⟨tb, tq + k * 4 + 2, none⟩ = some (.int .i64 t2) ∧ w'.cell? ⟨tb, tq + k * 4 + 3, none⟩ = some (.int .i64 x.len) ∧ w'.cell? ⟨fb, fo + i * 9 + 3, none⟩ = some (.int .i64 x.len))
                    (first | exact ⟨hk'.x.r.g.c0, hk'.x.r.g.c1, hk'.x.r.g.c2, hk'.x.r.g.c3, hk'.t0, hk'.t1, hk'.t2, hk'.t3, hk'.x.c.c3⟩ | exact ⟨(hk'.next (Below.refl _ _).drew).x.r.g.c0, (hk'.next (Below.refl _ _).drew).x.r.g.c1, (hk'.next (Below.refl _ _).drew).x.r.g.c2, (hk'.next (Below.refl _ _).drew).x.r.g.c3, (hk'.next (Below.refl _ _).drew).t0, (hk'.next (Below.refl _ _).drew).t1, (hk'.next (Below.refl _ _).drew).t2, (hk'.next (Below.refl _ _).drew).t3, (hk'.next (Below.refl _ _).drew).x.c.c3⟩)
                    (first
                      | (go_at_call 33; refine (CF.out _ (hk'.next (Below.refl _ _).drew)).mono ?_; rintro e w' ⟨rfl, hk'⟩)
                      | (go_at_call 33; refine (CF.out _ hk').mono ?_; rintro e w' ⟨rfl, hk'⟩))
                  all_goals
                    have HV := hid hk'.x
                    have HW := hid hk'.ti
                    clear hk'
                    go_wp2
                    go_roundw
                    case rel => exact ⟨k + 1, by go_num, by omega, HV, HW⟩
                    case measure => simp [RowKit.intOf]; omega
                · have hktz : ¬ (k : Int) < (TN : Int) := by omega
                  obtain ⟨PN, hPN⟩ : ∃ N, x.pats.length = N := ⟨_, rfl⟩
                  obtain ⟨SN, hSN⟩ : ∃ N, x.starts.length = N := ⟨_, rfl⟩
                  have htl := HTL.out
                  rw [hPN, hSN] at htl
                  have hmul : IntKind.i64.wrap ((PN : Int) * (SN : Int)) = (TN : Int) := by
                    rw [htl.1, Int.natCast_mul]
                    refine IntWalk.i64_in _ ?_
                    have h1 : (PN : Int) * (SN : Int) ≤ 2 * 3 := Int.mul_le_mul (by omega) (by omega) (by omega) (by omega)
                    have h2 : 0 ≤ (PN : Int) * (SN : Int) := Int.mul_nonneg (by omega) (by omega)
                    omega
                  have y4 := hX.out.c.c4
                  have y8 := hX.out.c.c8
                  rw [hPN] at y4
                  rw [hSN] at y8
                  have HRX := hid hX.out.r
                  clear htl hPN hSN hX hTI
                  go_wp2
                  go_quiet (fail)
                  go_wp2
                  go_roundw
                  case rel => exact ⟨i + 1, by go_num, by omega, hid (HRX.out.next (S3.below_drewN (Below.refl _ _) _))⟩
                  case measure => simp [RowKit.intOf]; omega
          · have hltz : ¬ (i : Int) < (ls.length : Int) := by omega
            go_wp2
            go_ret
            exact ⟨rfl, hK.out.bw⟩
  · rw [decide_eq_false hl] at cL
    clear hE h
    go_enter Tryz.func6, Tryz.ntmps6
    go_wp2_with fail
    refine cL.mono ?_
    rintro e w' ⟨rfl, rfl⟩
    go_wp2_with fail
    refine (cK.out _ (Below.refl _ _)).mono ?_
    rintro e w2 ⟨rfl, hb2⟩
    have HB2 := hid hb2
    clear hb2
    go_wp2
    go_ret
    exact ⟨rfl, HB2.out⟩
end Go.Proofs.YtigdcgklpapfbaaGreatDoor.S10
