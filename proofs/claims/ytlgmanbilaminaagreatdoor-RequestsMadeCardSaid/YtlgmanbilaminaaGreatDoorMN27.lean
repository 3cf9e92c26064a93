/-
  The walk of Dice.Requests: requests as they are made. Conditions: dice in memory; the classes lie in memory in other blocks; at most 100.
-/
import Derived.Test.YtlgmanbilaminaaGreatDoorMN10
set_option linter.unusedVariables false
namespace Go.Proofs.YtlgmanbilaminaaGreatDoor.S12
open Go Go.Proofs Go.RowKit Go.Lib Go.Proofs.YtlgmanbilaminaaGreatDoor Go.Proofs.YtlgmanbilaminaaGreatDoor.S10 Go.Proofs.YtlgmanbilaminaaGreatDoor.S11
set_option maxHeartbeats 64000000 in
set_option maxRecDepth 100000 in
theorem requests_any (g c k : Nat) (A : Option Addr) (L : List Int) (Ac : Option Addr) (cls : List ClassD) (cc : Nat) (hl : cls.length ≤ 100) (w : World) (h : DiceAt w g A L c k) (hc : ClassesIn w (fun k => k < w.heap.size) Ac cls) :
    Calls Tryz.prog 24 #[.pointer (some ⟨g, 0, none⟩), .slice Ac cls.length cc] w (RequestsP (coursesOf cls) g c A L w) := by
  obtain ⟨iC, hiC, hzC, hsiC, hbyC⟩ := info_parts infoReq
  have hnl := coursesOf_len cls
  have hnd := (coursesOf_go cls [] (by simp)).1
  have cCO := courses_any Ac cls cc w hc hl
  obtain ⟨names, hnames⟩ : ∃ N, coursesOf cls = N := ⟨_, rfl⟩
  have hnames' : List.foldl courses1 [] cls = names := hnames
  rw [hnames] at cCO hnl ⊢
  rw [hnames'] at hnd
  unfold S3.RowOut at cCO
  have CCO := hid cCO
  have HND := hid hnd
  have HN : Hid (∀ (W : World) (q : Int), 1 ≤ q → q ≤ 4294967296 → (∃ k, DiceAt W g A L c k) → Calls Tryz.prog 28 #[.pointer (some ⟨g, 0, none⟩), .int .i64 q] W fun e w' => ∃ r : Nat, e = .returned (.int .i64 (r : Int)) ∧ (r : Int) < q ∧ ∃ k', DiceAt w' g A L c k' ∧ Rolled g W w') := hid (fun W q hq hq2 ⟨k, hd⟩ => by
    refine (next_any g c k A L q hq2 W hd).mono ?_
    rintro e w' ⟨⟨r, rfl, hr⟩, ⟨k', hd'⟩, hR⟩
    obtain ⟨hr0, hr1⟩ := hr hq
    obtain ⟨q0, rfl⟩ : ∃ q : Nat, r = (q : Int) := ⟨r.toNat, by omega⟩
    exact ⟨q0, rfl, hr1, k', hd', hR⟩)
  have HO : Hid (∀ (W : World) (q : Int), 1 ≤ q → q ≤ 4294967296 → (∃ k, DiceAt W g A L c k) → Calls Tryz.prog 27 #[.pointer (some ⟨g, 0, none⟩), .int .i64 q] W fun e w' => ∃ r : Bool, e = .returned (.bool r) ∧ ∃ k', DiceAt w' g A L c k' ∧ Rolled g W w') := hid (fun W q hq hq2 ⟨k, hd⟩ => by
    refine (one_any g c k A L q hq2 hq W hd).mono ?_
    rintro e w' ⟨⟨r, rfl⟩, ⟨k', hd'⟩, hR⟩
    exact ⟨r, rfl, k', hd', hR⟩)
  have HE := hid (DE.first h)
  have HG := hid h.lt
  obtain ⟨NC, hNC⟩ : ∃ F, cls.length = F := ⟨_, rfl⟩
  rw [hNC] at CCO hl hnl ⊢
  clear h hc cCO hnames hnames' hNC hnd
  go_enter Tryz.func24, Tryz.ntmps24
  go_wp2_with fail
  refine CCO.out.mono ?_
  rintro e w1 ⟨⟨vn, rfl, hrn⟩, hb1⟩
  obtain ⟨An, cn, rfl, hn1, hn2, _⟩ := hrn.strsIn
  have hk0 : KR w g c A L names (.slice An names.length cn) w1.heap.size [] (.slice none 0 0) w1 := ⟨⟨_, HE.out.below hb1 HG.out⟩, hrn, ⟨[], rfl, World.ownsRow_nil _ _ _ _, fun p hp => by simp at hp⟩, HG.out, hb1.size, Nat.le_refl _, fun k hk => (World.ownsRow.lt hrn k hk).2, fun k hk => by simp [Value.ownBlock] at hk⟩
  have HK0 := hid hk0
  obtain ⟨SN, hSN⟩ : ∃ SN, names.length = SN := ⟨_, rfl⟩
  have HSN := hid hSN
  rw [hSN] at HK0 hnl hn1 ⊢
  clear hrn hb1 hk0 CCO HE hSN
  go_wp2_with fail
  refine (HN.out _ 6 (by omega) (by omega) HK0.out.dice).mono ?_
  rintro e w2 ⟨s0, rfl, hs0, k1, hd, hR⟩
  have HK2 := hid (HK0.out.roll hd hR)
  clear hd hR HK0
  go_wp2
  go_loopw [6, 7] (fun v nv wr => ∃ (sn j : Nat) (C : Nat) (ls : List ReqD) (Al : Option Addr) (cl : Nat), v = .slice Al j cl ∧ nv = .int .i64 (sn : Int) ∧ sn ≤ 5 ∧ Hid (ls.length = j) ∧ Hid (MadeQ names sn 0 ls) ∧ Hid (KR w g c A L names (.slice An SN cn) C ls (.slice Al j cl) wr)) (fun _ nv _ => (RowKit.intOf nv).toNat)
  case atStart => exact ⟨s0, 0, _, [], none, 0, rfl, rfl, by omega, hid rfl, hid (MadeQ.start _ _), HK2⟩
  case round =>
    clear HK2
    obtain ⟨sn, jo, Co, lso, Alo, clo, rfl, rfl, hs5, hljo, hMo, hKo⟩ := hrel
    by_cases hz : 0 < sn
    · have hqz : (0 : Int) < (sn : Int) := by omega
      by_cases hsn0 : 0 < SN
      · have hsz : (0 : Int) < (SN : Int) := by omega
        go_wp2
        go_loopw [6, 8] (fun v iv wr => ∃ (i j : Nat) (C : Nat) (ls : List ReqD) (Al : Option Addr) (cl : Nat), v = .slice Al j cl ∧ iv = .int .i64 (i : Int) ∧ i ≤ SN ∧ Hid (ls.length = j) ∧ Hid (MadeQ names sn i ls) ∧ Hid (KR w g c A L names (.slice An SN cn) C ls (.slice Al j cl) wr)) (fun _ iv _ => SN - (RowKit.intOf iv).toNat)
        case atStart => exact ⟨0, jo, Co, lso, Alo, clo, rfl, rfl, Nat.zero_le _, hljo, hMo, hKo⟩
        case round =>
          clear hljo hMo hKo
          obtain ⟨i, j, C, ls, Al, cl, rfl, rfl, hi, hlj, hM, hK⟩ := hrel
          by_cases hlt : i < SN
          · have hltz : (i : Int) < (SN : Int) := by omega
            go_wp2_with fail
            refine (HO.out _ 2 (by omega) (by omega) hK.out.dice).mono ?_
            rintro e w3 ⟨r, rfl, k2, hd2, hR2⟩
            have HK3 := hid (hK.out.roll hd2 hR2)
            clear hd2 hR2 hK
            generalize w3 = wr at HK3 ⊢
            cases r with
            | true =>
              have hin := HSN.out
              obtain ⟨X, hX⟩ : ∃ X, names[i]? = some X := ⟨names[i]'(by omega), List.getElem?_eq_getElem _⟩
              have HX := hid hX
              have hgA : ∃ gA, An = some ⟨gA, 0, none⟩ := by
                rcases HK3.out.nm.2 with ⟨_, h0⟩ | ⟨gA, cap, cur, hv, _⟩
                · omega
                · injection hv with hv; exact ⟨gA, hv⟩
              obtain ⟨gA, rfl⟩ := hgA
              have HXS : Hid (∀ (t : Nat) (Y : Str), names[t]? = some Y → ∀ C' ls' v' W, KR w g c A L names (.slice (some ⟨gA, 0, none⟩) SN cn) C' ls' v' W → W.cell? ⟨gA, t, none⟩ = some (.string (ba Y))) := hid (fun t Y hY C' ls' v' W hk => by
                have h1 := World.ownsRow.cells hk.nm (g := gA) rfl t (S3.strV Y) (by unfold S3.strVals; rw [List.getElem?_map, hY]; rfl)
                rw [Addr.add_lit, Nat.zero_add] at h1
                exact h1)
              have HXC : Hid (∀ W, KR w g c A L names (.slice (some ⟨gA, 0, none⟩) SN cn) wr.heap.size ls (.slice Al j cl) W → W.cell? ⟨gA, i, none⟩ = some (.string (ba X))) := hid (fun W hk => HXS.out i X hX _ _ _ W hk)
              have hqs : IntKind.i64.wrap (48 + (sn : Int)) = 48 + (sn : Int) := IntWalk.i64_in _ (by omega)
              have hqu : IntKind.u8.wrap (48 + (sn : Int)) = 48 + (sn : Int) := by rcases (show sn = 1 ∨ sn = 2 ∨ sn = 3 ∨ sn = 4 ∨ sn = 5 by omega) with rfl | rfl | rfl | rfl | rfl <;> rfl
              have hz1 : (0 : Int) ≤ (i : Int) := by omega
              have hCD : (⟨#[115]⟩ : ByteArray) ++ ⟨#[48 + UInt8.ofNat sn]⟩ = ba (codeST sn) := by rcases (show sn = 1 ∨ sn = 2 ∨ sn = 3 ∨ sn = 4 ∨ sn = 5 by omega) with rfl | rfl | rfl | rfl | rfl <;> rfl
              have HCD := hid hCD
              have hadd : ∀ w, (Op.stringOp .add (⟨#[115]⟩ : ByteArray) ⟨#[UInt8.ofNat (48 + sn)]⟩).run Tryz.prog w = .ok (.string (ba (codeST sn))) w := fun w => run_string_add_sum (w := w) _ _ (by show (1 : Nat) + 1 ≤ 9223372036854775807; omega)
              clear hX hin hCD
              have hK := HK3
              clear HK3
              go_upto_region 10 with fail
              go_cut [9] (fun pv wx => ∃ (bD : Nat) (r : ReqD), pv = .pointer (some ⟨bD, 0, none⟩) ∧ Hid (OneQ names sn i r) ∧ Hid (r.l = []) ∧ Hid (KX w g c A L names (.slice (some ⟨gA, 0, none⟩) SN cn) wr.heap.size ls (.slice Al j cl) bD r (none, 0) wx))
              case first =>
                refine wp_region_held_drew (S := RQ w g c A L names (.slice (some ⟨gA, 0, none⟩) SN cn) wr.heap.size ls (.slice Al j cl) sn none none) (by kernel_rfl) ((RQ.first hK.out.lift).next (Below.refl _ _).drew) (fun hHeld => ?_)
                generalize wr.drew = wd at hHeld ⊢
                (refine wpAnyH_take (i := 0) (oi := _) (v := ?_) rfl (by kernel_rfl) (by kernel_rfl) (by decide +kernel) (fun _ _ _ h => h) (Or.inl ⟨by rfl, ?_⟩) (by assumption) ?_; rotate_left; (intro wS hSw; skip; (try simp only [List.getElem_toArray, List.getElem_cons_zero]); go_simp; (try with_reducible rfl)))
                (try simp only [List.getElem_toArray, List.getElem_cons_zero, Act.put, List.setIfInBounds_toArray, List.set_cons_zero, List.set_cons_succ])
                (refine wpAnyH_take (i := 1) (oi := _) (v := ?_) rfl (by kernel_rfl) (by kernel_rfl) (by decide +kernel) (fun _ _ _ h => h) (Or.inl ⟨by rfl, ?_⟩) (by assumption) ?_; rotate_left; (intro wS hSw; skip; (try simp only [List.getElem_toArray, List.getElem_cons_succ, List.getElem_cons_zero]); go_simp; (try with_reducible rfl)))
                (try simp only [List.getElem_toArray, List.getElem_cons_succ, List.getElem_cons_zero, Act.put, List.setIfInBounds_toArray, List.set_cons_zero, List.set_cons_succ])
                (refine wpAnyH_take (i := 2) (oi := _) (v := ?_) rfl (by kernel_rfl) (by kernel_rfl) (by decide +kernel) (fun _ _ _ h => h) (Or.inl ⟨by rfl, ?_⟩) (by assumption) ?_; rotate_left; (intro wS hSw; skip; (try simp only [List.getElem_toArray, List.getElem_cons_succ, List.getElem_cons_zero]); go_simp; (try with_reducible rfl)))
                (try simp only [List.getElem_toArray, List.getElem_cons_succ, List.getElem_cons_zero, Act.put, List.setIfInBounds_toArray, List.set_cons_zero, List.set_cons_succ])
                (refine wpAnyH_take (i := 6) (oi := _) (v := ?_) rfl (by kernel_rfl) (by kernel_rfl) (by decide +kernel) (fun _ _ _ h => h) (Or.inl ⟨by rfl, ?_⟩) (by assumption) ?_; rotate_left; (intro wS hSw; skip; (try simp only [List.getElem_toArray, List.getElem_cons_succ, List.getElem_cons_zero]); go_simp; (try with_reducible rfl)))
                (try simp only [List.getElem_toArray, List.getElem_cons_succ, List.getElem_cons_zero, Act.put, List.setIfInBounds_toArray, List.set_cons_zero, List.set_cons_succ])
                (refine wpAnyH_take (i := 7) (oi := _) (v := ?_) rfl (by kernel_rfl) (by kernel_rfl) (by decide +kernel) (fun _ _ _ h => h) (Or.inl ⟨by rfl, ?_⟩) (by assumption) ?_; rotate_left; (intro wS hSw; skip; (try simp only [List.getElem_toArray, List.getElem_cons_succ, List.getElem_cons_zero]); go_simp; (try with_reducible rfl)))
                (try simp only [List.getElem_toArray, List.getElem_cons_succ, List.getElem_cons_zero, Act.put, List.setIfInBounds_toArray, List.set_cons_zero, List.set_cons_succ])
                (refine wpAnyH_take (i := 8) (oi := _) (v := ?_) rfl (by kernel_rfl) (by kernel_rfl) (by decide +kernel) (fun _ _ _ h => h) (Or.inl ⟨by rfl, ?_⟩) (by assumption) ?_; rotate_left; (intro wS hSw; skip; (try simp only [List.getElem_toArray, List.getElem_cons_succ, List.getElem_cons_zero]); go_simp; (try with_reducible rfl)))
                (try simp only [List.getElem_toArray, List.getElem_cons_succ, List.getElem_cons_zero, Act.put, List.setIfInBounds_toArray, List.set_cons_zero, List.set_cons_succ])
                (refine wpAnyH_take (i := 9) (oi := _) (v := ?_) rfl (by kernel_rfl) (by kernel_rfl) (by decide +kernel) (fun _ _ _ h => h) (Or.inl ⟨by rfl, ?_⟩) (by assumption) ?_; rotate_left; (intro wS hSw; have a9 := HXC.out _ hSw.k; (try simp only [List.getElem_toArray, List.getElem_cons_succ, List.getElem_cons_zero]); go_simp; (try with_reducible rfl)))
                (try simp only [List.getElem_toArray, List.getElem_cons_succ, List.getElem_cons_zero, Act.put, List.setIfInBounds_toArray, List.set_cons_zero, List.set_cons_succ])
                (refine wpAnyH_take (i := 10) (oi := _) (v := ?_) rfl (by kernel_rfl) (by kernel_rfl) (by decide +kernel) (fun _ _ _ h => h) (Or.inl ⟨by rfl, ?_⟩) (by assumption) ?_; rotate_left; (intro wS hSw; skip; (try simp only [List.getElem_toArray, List.getElem_cons_succ, List.getElem_cons_zero]); go_simp; (try with_reducible rfl)))
                (try simp only [List.getElem_toArray, List.getElem_cons_succ, List.getElem_cons_zero, Act.put, List.setIfInBounds_toArray, List.set_cons_zero, List.set_cons_succ])
                refine wpAnyH_ready (rs := [3, 11, 14]) (by kernel_rfl) (by simp) ?_
                refine AllReadyH.cons (o := _) rfl (fun K hK => ?_) ?_
                · (try simp only [List.getElem_toArray, List.getElem_cons_succ, List.getElem_cons_zero])
                  go_simp
                  obtain ⟨bB, hnm, hNew⟩ := hHeld.newB
                  rw [← hnm]
                  generalize hwn : World.alloc _ _ = wn at hNew ⊢
                  refine hK.out _ _ hNew.dropB (fun _ => ?_)
                  clear hK K hHeld hwn hnm
                  have hHeld := hNew
                  clear hNew
                  refine anyH_more (S' := RQ w g c A L names (.slice (some ⟨gA, 0, none⟩) SN cn) wr.heap.size ls (.slice Al j cl) sn (some bB) none) (fun _ hx => hx.dropB) _ _ _ _ ?_
                  (try simp only [List.getElem_toArray, List.getElem_cons_succ, List.getElem_cons_zero, Act.put, List.setIfInBounds_toArray, List.set_cons_zero, List.set_cons_succ])
                  (refine wpAnyH_take (i := 4) (oi := _) (v := ?_) rfl (by kernel_rfl) (by kernel_rfl) (by decide +kernel) (fun _ _ _ h => h) (Or.inl ⟨by rfl, ?_⟩) (by assumption) ?_; rotate_left; (intro wS hSw; have a4 := hSw.conv hs5; (try simp only [List.getElem_toArray, List.getElem_cons_succ, List.getElem_cons_zero]); go_simp; (try with_reducible rfl)))
                  (try simp only [List.getElem_toArray, List.getElem_cons_succ, List.getElem_cons_zero, Act.put, List.setIfInBounds_toArray, List.set_cons_zero, List.set_cons_succ])
                  (refine wpAnyH_take (i := 5) (oi := _) (v := ?_) rfl (by kernel_rfl) (by kernel_rfl) (by decide +kernel) (fun _ _ _ h => h) (Or.inl ⟨by rfl, ?_⟩) (by assumption) ?_; rotate_left; (intro wS hSw; skip; (try simp only [List.getElem_toArray, List.getElem_cons_succ, List.getElem_cons_zero]); go_simp; (try with_reducible rfl)))
                  (try simp only [List.getElem_toArray, List.getElem_cons_succ, List.getElem_cons_zero, Act.put, List.setIfInBounds_toArray, List.set_cons_zero, List.set_cons_succ])
                  refine wpAnyH_ready (rs := [11, 14]) (by kernel_rfl) (by simp) ?_
                  refine AllReadyH.cons (o := _) rfl (fun K hK => ?_) ?_
                  · (try simp only [List.getElem_toArray, List.getElem_cons_succ, List.getElem_cons_zero])
                    go_simp
                    go_at_call 28
                    refine (HN.out _ 9 (by omega) (by omega) hHeld.k.dice).mono ?_
                    rintro e wcx ⟨pr, rfl, hpr, kk, hdd, hRR⟩
                    have hHeld := hHeld.roll hdd hRR
                    clear hdd hRR
                    have hqp : IntKind.i64.wrap (1 + (pr : Int)) = 1 + (pr : Int) := IntWalk.i64_in _ (by omega)
                    refine hK.out _ _ hHeld (fun hHeld => ?_)
                    clear hK K
                    (try simp only [List.getElem_toArray, List.getElem_cons_succ, List.getElem_cons_zero, Act.put, List.setIfInBounds_toArray, List.set_cons_zero, List.set_cons_succ])
                    (refine wpAnyH_take (i := 12) (oi := _) (v := ?_) rfl (by kernel_rfl) (by kernel_rfl) (by decide +kernel) (fun _ _ _ h => h) (Or.inl ⟨by rfl, ?_⟩) (by assumption) ?_; rotate_left; (intro wS hSw; skip; (try simp only [List.getElem_toArray, List.getElem_cons_succ, List.getElem_cons_zero]); go_simp; (try with_reducible rfl)))
                    (try simp only [List.getElem_toArray, List.getElem_cons_succ, List.getElem_cons_zero, Act.put, List.setIfInBounds_toArray, List.set_cons_zero, List.set_cons_succ])
                    (refine wpAnyH_take (i := 13) (oi := _) (v := ?_) rfl (by kernel_rfl) (by kernel_rfl) (by decide +kernel) (fun _ _ _ h => h) (Or.inl ⟨by rfl, ?_⟩) (by assumption) ?_; rotate_left; (intro wS hSw; skip; (try simp only [List.getElem_toArray, List.getElem_cons_succ, List.getElem_cons_zero]); go_simp; (try with_reducible rfl)))
                    (try simp only [List.getElem_toArray, List.getElem_cons_succ, List.getElem_cons_zero, Act.put, List.setIfInBounds_toArray, List.set_cons_zero, List.set_cons_succ])
                    refine wpAnyH_ready (rs := [14]) (by kernel_rfl) (by simp) ?_
                    refine AllReadyH.cons (o := _) rfl (fun K hK => ?_) AllReadyH.nil
                    (try simp only [List.getElem_toArray, List.getElem_cons_succ, List.getElem_cons_zero])
                    go_simp
                    obtain ⟨bD, hnm, hNew⟩ := hHeld.newD
                    rw [← hnm]
                    generalize hwn : World.alloc _ _ = wn at hNew ⊢
                    refine hK.out _ _ hNew.dropD (fun _ => ?_)
                    clear hK K hHeld hwn hnm
                    have hHeld := hNew
                    clear hNew
                    refine anyH_more (S' := RQ w g c A L names (.slice (some ⟨gA, 0, none⟩) SN cn) wr.heap.size ls (.slice Al j cl) sn (some bB) (some bD)) (fun _ hx => hx.dropD) _ _ _ _ ?_
                    (try simp only [List.getElem_toArray, List.getElem_cons_succ, List.getElem_cons_zero, Act.put, List.setIfInBounds_toArray, List.set_cons_zero, List.set_cons_succ])
                    obtain ⟨hkb, u0, u1, u2, u3, hD⟩ := hHeld.od _ rfl
                    obtain ⟨y0, y1, y2, y3⟩ := hD.cells
                    have f0 := hD.free 0
                    have f1 := hD.free 1
                    have f2 := hD.free 2
                    have f3 := hD.free 3
                    have HST := hid (hHeld.stored (codeST sn) X (1 + (pr : Int)))
                    have HFC : Hid (OneQ names sn i ⟨codeST sn, X, 1 + (pr : Int), []⟩) := hid ⟨rfl, HX.out, ⟨by show (1 : Int) ≤ 1 + (pr : Int); omega, by show 1 + (pr : Int) ≤ 9; omega⟩, .inl rfl⟩
                    refine wpAnyH_ready (rs := [15]) (by kernel_rfl) (by simp) ?_
                    refine AllReadyH.cons (o := _) rfl (fun K hK => ?_) AllReadyH.nil
                    (try simp only [List.getElem_toArray, List.getElem_cons_succ, List.getElem_cons_zero])
                    go_simp
                    (try rw [HCD.out])
                    refine hK.out _ _ (RQ.keep hHeld _ _ _ _) (fun _ => ?_)
                    clear hK K hHeld
                    (try simp only [List.getElem_toArray, List.getElem_cons_succ, List.getElem_cons_zero, Act.put, List.setIfInBounds_toArray, List.set_cons_zero, List.set_cons_succ])
                    refine wpAnyH_done (by kernel_rfl) ?_ _
                    go_wp2_with fail
                    go_meet
                    exact ⟨bD, ⟨codeST sn, X, 1 + (pr : Int), []⟩, rfl, HFC, hid rfl, HST⟩
                  refine AllReadyH.cons (o := _) rfl (fun K hK => ?_) AllReadyH.nil
                  (try simp only [List.getElem_toArray, List.getElem_cons_succ, List.getElem_cons_zero])
                  go_simp
                  obtain ⟨bD, hnm, hNew⟩ := hHeld.newD
                  rw [← hnm]
                  generalize hwn : World.alloc _ _ = wn at hNew ⊢
                  refine hK.out _ _ hNew.dropD (fun _ => ?_)
                  clear hK K hHeld hwn hnm
                  have hHeld := hNew
                  clear hNew
                  refine anyH_more (S' := RQ w g c A L names (.slice (some ⟨gA, 0, none⟩) SN cn) wr.heap.size ls (.slice Al j cl) sn (some bB) (some bD)) (fun _ hx => hx.dropD) _ _ _ _ ?_
                  (try simp only [List.getElem_toArray, List.getElem_cons_succ, List.getElem_cons_zero, Act.put, List.setIfInBounds_toArray, List.set_cons_zero, List.set_cons_succ])
                  refine wpAnyH_ready (rs := [11]) (by kernel_rfl) (by simp) ?_
                  refine AllReadyH.cons (o := _) rfl (fun K hK => ?_) AllReadyH.nil
                  (try simp only [List.getElem_toArray, List.getElem_cons_succ, List.getElem_cons_zero])
                  go_simp
                  go_at_call 28
                  refine (HN.out _ 9 (by omega) (by omega) hHeld.k.dice).mono ?_
                  rintro e wcx ⟨pr, rfl, hpr, kk, hdd, hRR⟩
                  have hHeld := hHeld.roll hdd hRR
                  clear hdd hRR
                  have hqp : IntKind.i64.wrap (1 + (pr : Int)) = 1 + (pr : Int) := IntWalk.i64_in _ (by omega)
                  refine hK.out _ _ hHeld (fun hHeld => ?_)
                  clear hK K
                  (try simp only [List.getElem_toArray, List.getElem_cons_succ, List.getElem_cons_zero, Act.put, List.setIfInBounds_toArray, List.set_cons_zero, List.set_cons_succ])
                  (refine wpAnyH_take (i := 12) (oi := _) (v := ?_) rfl (by kernel_rfl) (by kernel_rfl) (by decide +kernel) (fun _ _ _ h => h) (Or.inl ⟨by rfl, ?_⟩) (by assumption) ?_; rotate_left; (intro wS hSw; skip; (try simp only [List.getElem_toArray, List.getElem_cons_succ, List.getElem_cons_zero]); go_simp; (try with_reducible rfl)))
                  (try simp only [List.getElem_toArray, List.getElem_cons_succ, List.getElem_cons_zero, Act.put, List.setIfInBounds_toArray, List.set_cons_zero, List.set_cons_succ])
                  (refine wpAnyH_take (i := 13) (oi := _) (v := ?_) rfl (by kernel_rfl) (by kernel_rfl) (by decide +kernel) (fun _ _ _ h => h) (Or.inl ⟨by rfl, ?_⟩) (by assumption) ?_; rotate_left; (intro wS hSw; skip; (try simp only [List.getElem_toArray, List.getElem_cons_succ, List.getElem_cons_zero]); go_simp; (try with_reducible rfl)))
                  (try simp only [List.getElem_toArray, List.getElem_cons_succ, List.getElem_cons_zero, Act.put, List.setIfInBounds_toArray, List.set_cons_zero, List.set_cons_succ])
                  obtain ⟨hkb, u0, u1, u2, u3, hD⟩ := hHeld.od _ rfl
                  obtain ⟨y0, y1, y2, y3⟩ := hD.cells
                  have f0 := hD.free 0
                  have f1 := hD.free 1
                  have f2 := hD.free 2
                  have f3 := hD.free 3
                  have HST := hid (hHeld.stored (codeST sn) X (1 + (pr : Int)))
                  have HFC : Hid (OneQ names sn i ⟨codeST sn, X, 1 + (pr : Int), []⟩) := hid ⟨rfl, HX.out, ⟨by show (1 : Int) ≤ 1 + (pr : Int); omega, by show 1 + (pr : Int) ≤ 9; omega⟩, .inl rfl⟩
                  refine wpAnyH_ready (rs := [15]) (by kernel_rfl) (by simp) ?_
                  refine AllReadyH.cons (o := _) rfl (fun K hK => ?_) AllReadyH.nil
                  (try simp only [List.getElem_toArray, List.getElem_cons_succ, List.getElem_cons_zero])
                  go_simp
                  (try rw [HCD.out])
                  refine hK.out _ _ (RQ.keep hHeld _ _ _ _) (fun _ => ?_)
                  clear hK K hHeld
                  (try simp only [List.getElem_toArray, List.getElem_cons_succ, List.getElem_cons_zero, Act.put, List.setIfInBounds_toArray, List.set_cons_zero, List.set_cons_succ])
                  refine wpAnyH_done (by kernel_rfl) ?_ _
                  go_wp2_with fail
                  go_meet
                  exact ⟨bD, ⟨codeST sn, X, 1 + (pr : Int), []⟩, rfl, HFC, hid rfl, HST⟩
                refine AllReadyH.cons (o := _) rfl (fun K hK => ?_) ?_
                · (try simp only [List.getElem_toArray, List.getElem_cons_succ, List.getElem_cons_zero])
                  go_simp
                  go_at_call 28
                  refine (HN.out _ 9 (by omega) (by omega) hHeld.k.dice).mono ?_
                  rintro e wcx ⟨pr, rfl, hpr, kk, hdd, hRR⟩
                  have hHeld := hHeld.roll hdd hRR
                  clear hdd hRR
                  have hqp : IntKind.i64.wrap (1 + (pr : Int)) = 1 + (pr : Int) := IntWalk.i64_in _ (by omega)
                  refine hK.out _ _ hHeld (fun hHeld => ?_)
                  clear hK K
                  (try simp only [List.getElem_toArray, List.getElem_cons_succ, List.getElem_cons_zero, Act.put, List.setIfInBounds_toArray, List.set_cons_zero, List.set_cons_succ])
                  (refine wpAnyH_take (i := 12) (oi := _) (v := ?_) rfl (by kernel_rfl) (by kernel_rfl) (by decide +kernel) (fun _ _ _ h => h) (Or.inl ⟨by rfl, ?_⟩) (by assumption) ?_; rotate_left; (intro wS hSw; skip; (try simp only [List.getElem_toArray, List.getElem_cons_succ, List.getElem_cons_zero]); go_simp; (try with_reducible rfl)))
                  (try simp only [List.getElem_toArray, List.getElem_cons_succ, List.getElem_cons_zero, Act.put, List.setIfInBounds_toArray, List.set_cons_zero, List.set_cons_succ])
                  refine wpAnyH_ready (rs := [3, 14]) (by kernel_rfl) (by simp) ?_
                  refine AllReadyH.cons (o := _) rfl (fun K hK => ?_) ?_
                  · (try simp only [List.getElem_toArray, List.getElem_cons_succ, List.getElem_cons_zero])
                    go_simp
                    obtain ⟨bB, hnm, hNew⟩ := hHeld.newB
                    rw [← hnm]
                    generalize hwn : World.alloc _ _ = wn at hNew ⊢
                    refine hK.out _ _ hNew.dropB (fun _ => ?_)
                    clear hK K hHeld hwn hnm
                    have hHeld := hNew
                    clear hNew
                    refine anyH_more (S' := RQ w g c A L names (.slice (some ⟨gA, 0, none⟩) SN cn) wr.heap.size ls (.slice Al j cl) sn (some bB) none) (fun _ hx => hx.dropB) _ _ _ _ ?_
                    (try simp only [List.getElem_toArray, List.getElem_cons_succ, List.getElem_cons_zero, Act.put, List.setIfInBounds_toArray, List.set_cons_zero, List.set_cons_succ])
                    (refine wpAnyH_take (i := 4) (oi := _) (v := ?_) rfl (by kernel_rfl) (by kernel_rfl) (by decide +kernel) (fun _ _ _ h => h) (Or.inl ⟨by rfl, ?_⟩) (by assumption) ?_; rotate_left; (intro wS hSw; have a4 := hSw.conv hs5; (try simp only [List.getElem_toArray, List.getElem_cons_succ, List.getElem_cons_zero]); go_simp; (try with_reducible rfl)))
                    (try simp only [List.getElem_toArray, List.getElem_cons_succ, List.getElem_cons_zero, Act.put, List.setIfInBounds_toArray, List.set_cons_zero, List.set_cons_succ])
                    (refine wpAnyH_take (i := 5) (oi := _) (v := ?_) rfl (by kernel_rfl) (by kernel_rfl) (by decide +kernel) (fun _ _ _ h => h) (Or.inl ⟨by rfl, ?_⟩) (by assumption) ?_; rotate_left; (intro wS hSw; skip; (try simp only [List.getElem_toArray, List.getElem_cons_succ, List.getElem_cons_zero]); go_simp; (try with_reducible rfl)))
                    (try simp only [List.getElem_toArray, List.getElem_cons_succ, List.getElem_cons_zero, Act.put, List.setIfInBounds_toArray, List.set_cons_zero, List.set_cons_succ])
                    (refine wpAnyH_take (i := 13) (oi := _) (v := ?_) rfl (by kernel_rfl) (by kernel_rfl) (by decide +kernel) (fun _ _ _ h => h) (Or.inl ⟨by rfl, ?_⟩) (by assumption) ?_; rotate_left; (intro wS hSw; skip; (try simp only [List.getElem_toArray, List.getElem_cons_succ, List.getElem_cons_zero]); go_simp; (try with_reducible rfl)))
                    (try simp only [List.getElem_toArray, List.getElem_cons_succ, List.getElem_cons_zero, Act.put, List.setIfInBounds_toArray, List.set_cons_zero, List.set_cons_succ])
                    refine wpAnyH_ready (rs := [14]) (by kernel_rfl) (by simp) ?_
                    refine AllReadyH.cons (o := _) rfl (fun K hK => ?_) AllReadyH.nil
                    (try simp only [List.getElem_toArray, List.getElem_cons_succ, List.getElem_cons_zero])
                    go_simp
                    obtain ⟨bD, hnm, hNew⟩ := hHeld.newD
                    rw [← hnm]
                    generalize hwn : World.alloc _ _ = wn at hNew ⊢
                    refine hK.out _ _ hNew.dropD (fun _ => ?_)
                    clear hK K hHeld hwn hnm
                    have hHeld := hNew
                    clear hNew
                    refine anyH_more (S' := RQ w g c A L names (.slice (some ⟨gA, 0, none⟩) SN cn) wr.heap.size ls (.slice Al j cl) sn (some bB) (some bD)) (fun _ hx => hx.dropD) _ _ _ _ ?_
                    (try simp only [List.getElem_toArray, List.getElem_cons_succ, List.getElem_cons_zero, Act.put, List.setIfInBounds_toArray, List.set_cons_zero, List.set_cons_succ])
                    obtain ⟨hkb, u0, u1, u2, u3, hD⟩ := hHeld.od _ rfl
                    obtain ⟨y0, y1, y2, y3⟩ := hD.cells
                    have f0 := hD.free 0
                    have f1 := hD.free 1
                    have f2 := hD.free 2
                    have f3 := hD.free 3
                    have HST := hid (hHeld.stored (codeST sn) X (1 + (pr : Int)))
                    have HFC : Hid (OneQ names sn i ⟨codeST sn, X, 1 + (pr : Int), []⟩) := hid ⟨rfl, HX.out, ⟨by show (1 : Int) ≤ 1 + (pr : Int); omega, by show 1 + (pr : Int) ≤ 9; omega⟩, .inl rfl⟩
                    refine wpAnyH_ready (rs := [15]) (by kernel_rfl) (by simp) ?_
                    refine AllReadyH.cons (o := _) rfl (fun K hK => ?_) AllReadyH.nil
                    (try simp only [List.getElem_toArray, List.getElem_cons_succ, List.getElem_cons_zero])
                    go_simp
                    (try rw [HCD.out])
                    refine hK.out _ _ (RQ.keep hHeld _ _ _ _) (fun _ => ?_)
                    clear hK K hHeld
                    (try simp only [List.getElem_toArray, List.getElem_cons_succ, List.getElem_cons_zero, Act.put, List.setIfInBounds_toArray, List.set_cons_zero, List.set_cons_succ])
                    refine wpAnyH_done (by kernel_rfl) ?_ _
                    go_wp2_with fail
                    go_meet
                    exact ⟨bD, ⟨codeST sn, X, 1 + (pr : Int), []⟩, rfl, HFC, hid rfl, HST⟩
                  refine AllReadyH.cons (o := _) rfl (fun K hK => ?_) AllReadyH.nil
                  (try simp only [List.getElem_toArray, List.getElem_cons_succ, List.getElem_cons_zero])
                  go_simp
                  obtain ⟨bD, hnm, hNew⟩ := hHeld.newD
                  rw [← hnm]
                  generalize hwn : World.alloc _ _ = wn at hNew ⊢
                  refine hK.out _ _ hNew.dropD (fun _ => ?_)
                  clear hK K hHeld hwn hnm
                  have hHeld := hNew
                  clear hNew
                  refine anyH_more (S' := RQ w g c A L names (.slice (some ⟨gA, 0, none⟩) SN cn) wr.heap.size ls (.slice Al j cl) sn none (some bD)) (fun _ hx => hx.dropD) _ _ _ _ ?_
                  (try simp only [List.getElem_toArray, List.getElem_cons_succ, List.getElem_cons_zero, Act.put, List.setIfInBounds_toArray, List.set_cons_zero, List.set_cons_succ])
                  refine wpAnyH_ready (rs := [3]) (by kernel_rfl) (by simp) ?_
                  refine AllReadyH.cons (o := _) rfl (fun K hK => ?_) AllReadyH.nil
                  (try simp only [List.getElem_toArray, List.getElem_cons_succ, List.getElem_cons_zero])
                  go_simp
                  obtain ⟨bB, hnm, hNew⟩ := hHeld.newB
                  rw [← hnm]
                  generalize hwn : World.alloc _ _ = wn at hNew ⊢
                  refine hK.out _ _ hNew.dropB (fun _ => ?_)
                  clear hK K hHeld hwn hnm
                  have hHeld := hNew
                  clear hNew
                  refine anyH_more (S' := RQ w g c A L names (.slice (some ⟨gA, 0, none⟩) SN cn) wr.heap.size ls (.slice Al j cl) sn (some bB) (some bD)) (fun _ hx => hx.dropB) _ _ _ _ ?_
                  (try simp only [List.getElem_toArray, List.getElem_cons_succ, List.getElem_cons_zero, Act.put, List.setIfInBounds_toArray, List.set_cons_zero, List.set_cons_succ])
                  (refine wpAnyH_take (i := 4) (oi := _) (v := ?_) rfl (by kernel_rfl) (by kernel_rfl) (by decide +kernel) (fun _ _ _ h => h) (Or.inl ⟨by rfl, ?_⟩) (by assumption) ?_; rotate_left; (intro wS hSw; have a4 := hSw.conv hs5; (try simp only [List.getElem_toArray, List.getElem_cons_succ, List.getElem_cons_zero]); go_simp; (try with_reducible rfl)))
                  (try simp only [List.getElem_toArray, List.getElem_cons_succ, List.getElem_cons_zero, Act.put, List.setIfInBounds_toArray, List.set_cons_zero, List.set_cons_succ])
                  (refine wpAnyH_take (i := 5) (oi := _) (v := ?_) rfl (by kernel_rfl) (by kernel_rfl) (by decide +kernel) (fun _ _ _ h => h) (Or.inl ⟨by rfl, ?_⟩) (by assumption) ?_; rotate_left; (intro wS hSw; skip; (try simp only [List.getElem_toArray, List.getElem_cons_succ, List.getElem_cons_zero]); go_simp; (try with_reducible rfl)))
                  (try simp only [List.getElem_toArray, List.getElem_cons_succ, List.getElem_cons_zero, Act.put, List.setIfInBounds_toArray, List.set_cons_zero, List.set_cons_succ])
                  (refine wpAnyH_take (i := 13) (oi := _) (v := ?_) rfl (by kernel_rfl) (by kernel_rfl) (by decide +kernel) (fun _ _ _ h => h) (Or.inl ⟨by rfl, ?_⟩) (by assumption) ?_; rotate_left; (intro wS hSw; skip; (try simp only [List.getElem_toArray, List.getElem_cons_succ, List.getElem_cons_zero]); go_simp; (try with_reducible rfl)))
                  (try simp only [List.getElem_toArray, List.getElem_cons_succ, List.getElem_cons_zero, Act.put, List.setIfInBounds_toArray, List.set_cons_zero, List.set_cons_succ])
                  obtain ⟨hkb, u0, u1, u2, u3, hD⟩ := hHeld.od _ rfl
                  obtain ⟨y0, y1, y2, y3⟩ := hD.cells
                  have f0 := hD.free 0
                  have f1 := hD.free 1
                  have f2 := hD.free 2
                  have f3 := hD.free 3
                  have HST := hid (hHeld.stored (codeST sn) X (1 + (pr : Int)))
                  have HFC : Hid (OneQ names sn i ⟨codeST sn, X, 1 + (pr : Int), []⟩) := hid ⟨rfl, HX.out, ⟨by show (1 : Int) ≤ 1 + (pr : Int); omega, by show 1 + (pr : Int) ≤ 9; omega⟩, .inl rfl⟩
                  refine wpAnyH_ready (rs := [15]) (by kernel_rfl) (by simp) ?_
                  refine AllReadyH.cons (o := _) rfl (fun K hK => ?_) AllReadyH.nil
                  (try simp only [List.getElem_toArray, List.getElem_cons_succ, List.getElem_cons_zero])
                  go_simp
                  (try rw [HCD.out])
                  refine hK.out _ _ (RQ.keep hHeld _ _ _ _) (fun _ => ?_)
                  clear hK K hHeld
                  (try simp only [List.getElem_toArray, List.getElem_cons_succ, List.getElem_cons_zero, Act.put, List.setIfInBounds_toArray, List.set_cons_zero, List.set_cons_succ])
                  refine wpAnyH_done (by kernel_rfl) ?_ _
                  go_wp2_with fail
                  go_meet
                  exact ⟨bD, ⟨codeST sn, X, 1 + (pr : Int), []⟩, rfl, HFC, hid rfl, HST⟩
                refine AllReadyH.cons (o := _) rfl (fun K hK => ?_) AllReadyH.nil
                (try simp only [List.getElem_toArray, List.getElem_cons_succ, List.getElem_cons_zero])
                go_simp
                obtain ⟨bD, hnm, hNew⟩ := hHeld.newD
                rw [← hnm]
                generalize hwn : World.alloc _ _ = wn at hNew ⊢
                refine hK.out _ _ hNew.dropD (fun _ => ?_)
                clear hK K hHeld hwn hnm
                have hHeld := hNew
                clear hNew
                refine anyH_more (S' := RQ w g c A L names (.slice (some ⟨gA, 0, none⟩) SN cn) wr.heap.size ls (.slice Al j cl) sn none (some bD)) (fun _ hx => hx.dropD) _ _ _ _ ?_
                (try simp only [List.getElem_toArray, List.getElem_cons_succ, List.getElem_cons_zero, Act.put, List.setIfInBounds_toArray, List.set_cons_zero, List.set_cons_succ])
                refine wpAnyH_ready (rs := [3, 11]) (by kernel_rfl) (by simp) ?_
                refine AllReadyH.cons (o := _) rfl (fun K hK => ?_) ?_
                · (try simp only [List.getElem_toArray, List.getElem_cons_succ, List.getElem_cons_zero])
                  go_simp
                  obtain ⟨bB, hnm, hNew⟩ := hHeld.newB
                  rw [← hnm]
                  generalize hwn : World.alloc _ _ = wn at hNew ⊢
                  refine hK.out _ _ hNew.dropB (fun _ => ?_)
                  clear hK K hHeld hwn hnm
                  have hHeld := hNew
                  clear hNew
                  refine anyH_more (S' := RQ w g c A L names (.slice (some ⟨gA, 0, none⟩) SN cn) wr.heap.size ls (.slice Al j cl) sn (some bB) (some bD)) (fun _ hx => hx.dropB) _ _ _ _ ?_
                  (try simp only [List.getElem_toArray, List.getElem_cons_succ, List.getElem_cons_zero, Act.put, List.setIfInBounds_toArray, List.set_cons_zero, List.set_cons_succ])
                  (refine wpAnyH_take (i := 4) (oi := _) (v := ?_) rfl (by kernel_rfl) (by kernel_rfl) (by decide +kernel) (fun _ _ _ h => h) (Or.inl ⟨by rfl, ?_⟩) (by assumption) ?_; rotate_left; (intro wS hSw; have a4 := hSw.conv hs5; (try simp only [List.getElem_toArray, List.getElem_cons_succ, List.getElem_cons_zero]); go_simp; (try with_reducible rfl)))
                  (try simp only [List.getElem_toArray, List.getElem_cons_succ, List.getElem_cons_zero, Act.put, List.setIfInBounds_toArray, List.set_cons_zero, List.set_cons_succ])
                  (refine wpAnyH_take (i := 5) (oi := _) (v := ?_) rfl (by kernel_rfl) (by kernel_rfl) (by decide +kernel) (fun _ _ _ h => h) (Or.inl ⟨by rfl, ?_⟩) (by assumption) ?_; rotate_left; (intro wS hSw; skip; (try simp only [List.getElem_toArray, List.getElem_cons_succ, List.getElem_cons_zero]); go_simp; (try with_reducible rfl)))
                  (try simp only [List.getElem_toArray, List.getElem_cons_succ, List.getElem_cons_zero, Act.put, List.setIfInBounds_toArray, List.set_cons_zero, List.set_cons_succ])
                  refine wpAnyH_ready (rs := [11]) (by kernel_rfl) (by simp) ?_
                  refine AllReadyH.cons (o := _) rfl (fun K hK => ?_) AllReadyH.nil
                  (try simp only [List.getElem_toArray, List.getElem_cons_succ, List.getElem_cons_zero])
                  go_simp
                  go_at_call 28
                  refine (HN.out _ 9 (by omega) (by omega) hHeld.k.dice).mono ?_
                  rintro e wcx ⟨pr, rfl, hpr, kk, hdd, hRR⟩
                  have hHeld := hHeld.roll hdd hRR
                  clear hdd hRR
                  have hqp : IntKind.i64.wrap (1 + (pr : Int)) = 1 + (pr : Int) := IntWalk.i64_in _ (by omega)
                  refine hK.out _ _ hHeld (fun hHeld => ?_)
                  clear hK K
                  (try simp only [List.getElem_toArray, List.getElem_cons_succ, List.getElem_cons_zero, Act.put, List.setIfInBounds_toArray, List.set_cons_zero, List.set_cons_succ])
                  (refine wpAnyH_take (i := 12) (oi := _) (v := ?_) rfl (by kernel_rfl) (by kernel_rfl) (by decide +kernel) (fun _ _ _ h => h) (Or.inl ⟨by rfl, ?_⟩) (by assumption) ?_; rotate_left; (intro wS hSw; skip; (try simp only [List.getElem_toArray, List.getElem_cons_succ, List.getElem_cons_zero]); go_simp; (try with_reducible rfl)))
                  (try simp only [List.getElem_toArray, List.getElem_cons_succ, List.getElem_cons_zero, Act.put, List.setIfInBounds_toArray, List.set_cons_zero, List.set_cons_succ])
                  (refine wpAnyH_take (i := 13) (oi := _) (v := ?_) rfl (by kernel_rfl) (by kernel_rfl) (by decide +kernel) (fun _ _ _ h => h) (Or.inl ⟨by rfl, ?_⟩) (by assumption) ?_; rotate_left; (intro wS hSw; skip; (try simp only [List.getElem_toArray, List.getElem_cons_succ, List.getElem_cons_zero]); go_simp; (try with_reducible rfl)))
                  (try simp only [List.getElem_toArray, List.getElem_cons_succ, List.getElem_cons_zero, Act.put, List.setIfInBounds_toArray, List.set_cons_zero, List.set_cons_succ])
                  obtain ⟨hkb, u0, u1, u2, u3, hD⟩ := hHeld.od _ rfl
                  obtain ⟨y0, y1, y2, y3⟩ := hD.cells
                  have f0 := hD.free 0
                  have f1 := hD.free 1
                  have f2 := hD.free 2
                  have f3 := hD.free 3
                  have HST := hid (hHeld.stored (codeST sn) X (1 + (pr : Int)))
                  have HFC : Hid (OneQ names sn i ⟨codeST sn, X, 1 + (pr : Int), []⟩) := hid ⟨rfl, HX.out, ⟨by show (1 : Int) ≤ 1 + (pr : Int); omega, by show 1 + (pr : Int) ≤ 9; omega⟩, .inl rfl⟩
                  refine wpAnyH_ready (rs := [15]) (by kernel_rfl) (by simp) ?_
                  refine AllReadyH.cons (o := _) rfl (fun K hK => ?_) AllReadyH.nil
                  (try simp only [List.getElem_toArray, List.getElem_cons_succ, List.getElem_cons_zero])
                  go_simp
                  (try rw [HCD.out])
                  refine hK.out _ _ (RQ.keep hHeld _ _ _ _) (fun _ => ?_)
                  clear hK K hHeld
                  (try simp only [List.getElem_toArray, List.getElem_cons_succ, List.getElem_cons_zero, Act.put, List.setIfInBounds_toArray, List.set_cons_zero, List.set_cons_succ])
                  refine wpAnyH_done (by kernel_rfl) ?_ _
                  go_wp2_with fail
                  go_meet
                  exact ⟨bD, ⟨codeST sn, X, 1 + (pr : Int), []⟩, rfl, HFC, hid rfl, HST⟩
                refine AllReadyH.cons (o := _) rfl (fun K hK => ?_) AllReadyH.nil
                (try simp only [List.getElem_toArray, List.getElem_cons_succ, List.getElem_cons_zero])
                go_simp
                go_at_call 28
                refine (HN.out _ 9 (by omega) (by omega) hHeld.k.dice).mono ?_
                rintro e wcx ⟨pr, rfl, hpr, kk, hdd, hRR⟩
                have hHeld := hHeld.roll hdd hRR
                clear hdd hRR
                have hqp : IntKind.i64.wrap (1 + (pr : Int)) = 1 + (pr : Int) := IntWalk.i64_in _ (by omega)
                refine hK.out _ _ hHeld (fun hHeld => ?_)
                clear hK K
                (try simp only [List.getElem_toArray, List.getElem_cons_succ, List.getElem_cons_zero, Act.put, List.setIfInBounds_toArray, List.set_cons_zero, List.set_cons_succ])
                (refine wpAnyH_take (i := 12) (oi := _) (v := ?_) rfl (by kernel_rfl) (by kernel_rfl) (by decide +kernel) (fun _ _ _ h => h) (Or.inl ⟨by rfl, ?_⟩) (by assumption) ?_; rotate_left; (intro wS hSw; skip; (try simp only [List.getElem_toArray, List.getElem_cons_succ, List.getElem_cons_zero]); go_simp; (try with_reducible rfl)))
                (try simp only [List.getElem_toArray, List.getElem_cons_succ, List.getElem_cons_zero, Act.put, List.setIfInBounds_toArray, List.set_cons_zero, List.set_cons_succ])
                refine wpAnyH_ready (rs := [3]) (by kernel_rfl) (by simp) ?_
                refine AllReadyH.cons (o := _) rfl (fun K hK => ?_) AllReadyH.nil
                (try simp only [List.getElem_toArray, List.getElem_cons_succ, List.getElem_cons_zero])
                go_simp
                obtain ⟨bB, hnm, hNew⟩ := hHeld.newB
                rw [← hnm]
                generalize hwn : World.alloc _ _ = wn at hNew ⊢
                refine hK.out _ _ hNew.dropB (fun _ => ?_)
                clear hK K hHeld hwn hnm
                have hHeld := hNew
                clear hNew
                refine anyH_more (S' := RQ w g c A L names (.slice (some ⟨gA, 0, none⟩) SN cn) wr.heap.size ls (.slice Al j cl) sn (some bB) (some bD)) (fun _ hx => hx.dropB) _ _ _ _ ?_
                (try simp only [List.getElem_toArray, List.getElem_cons_succ, List.getElem_cons_zero, Act.put, List.setIfInBounds_toArray, List.set_cons_zero, List.set_cons_succ])
                (refine wpAnyH_take (i := 4) (oi := _) (v := ?_) rfl (by kernel_rfl) (by kernel_rfl) (by decide +kernel) (fun _ _ _ h => h) (Or.inl ⟨by rfl, ?_⟩) (by assumption) ?_; rotate_left; (intro wS hSw; have a4 := hSw.conv hs5; (try simp only [List.getElem_toArray, List.getElem_cons_succ, List.getElem_cons_zero]); go_simp; (try with_reducible rfl)))
                (try simp only [List.getElem_toArray, List.getElem_cons_succ, List.getElem_cons_zero, Act.put, List.setIfInBounds_toArray, List.set_cons_zero, List.set_cons_succ])
                (refine wpAnyH_take (i := 5) (oi := _) (v := ?_) rfl (by kernel_rfl) (by kernel_rfl) (by decide +kernel) (fun _ _ _ h => h) (Or.inl ⟨by rfl, ?_⟩) (by assumption) ?_; rotate_left; (intro wS hSw; skip; (try simp only [List.getElem_toArray, List.getElem_cons_succ, List.getElem_cons_zero]); go_simp; (try with_reducible rfl)))
                (try simp only [List.getElem_toArray, List.getElem_cons_succ, List.getElem_cons_zero, Act.put, List.setIfInBounds_toArray, List.set_cons_zero, List.set_cons_succ])
                (refine wpAnyH_take (i := 13) (oi := _) (v := ?_) rfl (by kernel_rfl) (by kernel_rfl) (by decide +kernel) (fun _ _ _ h => h) (Or.inl ⟨by rfl, ?_⟩) (by assumption) ?_; rotate_left; (intro wS hSw; skip; (try simp only [List.getElem_toArray, List.getElem_cons_succ, List.getElem_cons_zero]); go_simp; (try with_reducible rfl)))
                (try simp only [List.getElem_toArray, List.getElem_cons_succ, List.getElem_cons_zero, Act.put, List.setIfInBounds_toArray, List.set_cons_zero, List.set_cons_succ])
                obtain ⟨hkb, u0, u1, u2, u3, hD⟩ := hHeld.od _ rfl
                obtain ⟨y0, y1, y2, y3⟩ := hD.cells
                have f0 := hD.free 0
                have f1 := hD.free 1
                have f2 := hD.free 2
                have f3 := hD.free 3
                have HST := hid (hHeld.stored (codeST sn) X (1 + (pr : Int)))
                have HFC : Hid (OneQ names sn i ⟨codeST sn, X, 1 + (pr : Int), []⟩) := hid ⟨rfl, HX.out, ⟨by show (1 : Int) ≤ 1 + (pr : Int); omega, by show 1 + (pr : Int) ≤ 9; omega⟩, .inl rfl⟩
                refine wpAnyH_ready (rs := [15]) (by kernel_rfl) (by simp) ?_
                refine AllReadyH.cons (o := _) rfl (fun K hK => ?_) AllReadyH.nil
                (try simp only [List.getElem_toArray, List.getElem_cons_succ, List.getElem_cons_zero])
                go_simp
                (try rw [HCD.out])
                refine hK.out _ _ (RQ.keep hHeld _ _ _ _) (fun _ => ?_)
                clear hK K hHeld
                (try simp only [List.getElem_toArray, List.getElem_cons_succ, List.getElem_cons_zero, Act.put, List.setIfInBounds_toArray, List.set_cons_zero, List.set_cons_succ])
                refine wpAnyH_done (by kernel_rfl) ?_ _
                go_wp2_with fail
                go_meet
                exact ⟨bD, ⟨codeST sn, X, 1 + (pr : Int), []⟩, rfl, HFC, hid rfl, HST⟩
              case rest =>
                clear hK hadd HCD hqu hqs
                obtain ⟨xb, r, rfl, HR, HRL, HKX⟩ := hcut
                obtain ⟨k, hkd⟩ : ∃ k, (i + 1) % SN = k := ⟨_, rfl⟩
                have hkl : k < SN := by rw [← hkd]; exact Nat.mod_lt _ hsn0
                have hkz : (k : Int) < (SN : Int) := by omega
                have hk0 : (0 : Int) ≤ (k : Int) := by omega
                have hkt : ((i : Int) + 1).tmod (SN : Int) = (k : Int) := by
                  rw [← hkd, show ((i : Int) + 1) = ((i + 1 : Nat) : Int) by omega]
                  rfl
                have hqi : IntKind.i64.wrap ((i : Int) + 1) = (i : Int) + 1 := IntWalk.i64_in _ (by omega)
                have hqk : IntKind.i64.wrap (k : Int) = (k : Int) := IntWalk.i64_in _ (by omega)
                have hnz : ¬ (SN : Int) = 0 := by omega
                clear hkd
                go_upto_region 12 with fail
                go_cut [57] (fun bv wx => ∃ o : Bool, bv = .bool o ∧ Hid (o = true → k ≠ i) ∧ Hid (KX w g c A L names (.slice (some ⟨gA, 0, none⟩) SN cn) wr.heap.size ls (.slice Al j cl) xb r (none, 0) wx))
                case first =>
                  by_cases hki : k = i
                  · subst hki
                    go_wp2_with fail
                    go_meet
                    exact ⟨false, rfl, hid (fun h => by cases h), HKX⟩
                  · have hkz' : ((k : Int) != (i : Int)) = true := by simp; omega
                    have hkz'' : ¬ (k : Int) = (i : Int) := by omega
                    go_wp2_with fail
                    refine (HO.out _ 2 (by omega) (by omega) HKX.out.k.dice).mono ?_
                    rintro e w4 ⟨o, rfl, k4, hd4, hR4⟩
                    have HKX4 := hid (HKX.out.roll hd4 hR4)
                    clear hd4 hR4 HKX
                    go_wp2_with fail
                    go_meet
                    exact ⟨o, rfl, hid (fun _ => hki), HKX4⟩
                case rest =>
                clear HKX
                obtain ⟨o, rfl, HKI, HKX⟩ := hcut
                go_upto_if 57 with fail
                go_cut [9] (fun pv wx => pv = .pointer (some ⟨xb, 0, none⟩) ∧ ∃ (r : ReqD) (q : ReqA), Hid (OneQ names sn i r) ∧ Hid (KX w g c A L names (.slice (some ⟨gA, 0, none⟩) SN cn) wr.heap.size ls (.slice Al j cl) xb r q wx))
                case first =>
                  cases o with
                  | false =>
                      go_wp2_with fail
                      go_meet
                      exact ⟨rfl, r, (none, 0), HR, HKX⟩
                  | true =>
                      have hki := HKI.out rfl
                      obtain ⟨Y, hY⟩ : ∃ Y, names[k]? = some Y := ⟨names[k]'(by have := HSN.out; omega), List.getElem?_eq_getElem _⟩
                      have hcY := HXS.out k Y hY _ _ _ _ HKX.out.k
                      have HSET := hid (HKX.out.set Y)
                      have hgl : gA < wc.heap.size := World.block_lt_of_cell? wc _ hcY
                      obtain ⟨b0, b1, b2, b3⟩ := HKX.out.x.cells
                      have hxl := HKX.out.x.lt
                      have b3' : (wc.alloc (.cells #[.string (ba Y)] 9)).cell? ⟨xb, 3, none⟩ = some (.slice none r.l.length 0) := by rw [World.cell?_of_block (heap_alloc_old wc _ hxl)]; exact b3
                      have hfx : (wc.alloc (.cells #[.string (ba Y)] 9)).frozen? ⟨xb, 3, none⟩ = false := ((HKX.out.x.next ((Below.refl _ wc).alloc (Nat.le_refl _) _)).free 3)
                      have HOQ : Hid (OneQ names sn i ⟨r.s, r.c, r.p, [Y]⟩) := hid ⟨HR.out.s, HR.out.c, HR.out.p, .inr ⟨k, Y, hki, hY, rfl⟩⟩
                      clear hY b0 b1 b2 b3 hxl
                      go_wp2_with fail
                      go_meet
                      exact ⟨rfl, ⟨r.s, r.c, r.p, [Y]⟩, (some ⟨wc.heap.size, 0, none⟩, 1), HOQ, HSET⟩
                case rest =>
                  clear HKX HR HRL
                  clear r
                  obtain ⟨rfl, r, q, HR, HKX⟩ := hcut
                  obtain ⟨y0, y1, y2, y3⟩ := HKX.out.x.cells
                  obtain ⟨Lr, hL, ho, hr⟩ := HKX.out.k.row
                  have hl0 : Lr.length = j := by rw [← hlj.out, ← hL, List.length_map]
                  have ho' := ho
                  rw [hl0] at ho'
                  have HO' := hid ho'
                  have HLL := hid hL
                  have HOO := hid ho
                  have HRR := hid hr
                  have HL0 := hid hl0
                  have HM1 : Hid (j + 1 ≤ maxLen) := hid (by have hm := hM.out.len; have hnn := HSN.out; have h5 : (5 - sn) * names.length ≤ 5 * names.length := Nat.mul_le_mul_right _ (by omega); rw [hlj.out] at hm; unfold maxLen; omega)
                  have HM2 : Hid ((j + 1) * 64 ≤ 140737488355328) := hid (by have hm := hM.out.len; have hnn := HSN.out; have h5 : (5 - sn) * names.length ≤ 5 * names.length := Nat.mul_le_mul_right _ (by omega); rw [hlj.out] at hm; omega)
                  have HBS : Hid (∀ o : Obj, w.heap.size ≤ (wc.alloc o).heap.size) := hid (fun o => by have := HKX.out.k.size; simp; omega)
                  have hCC := four_newR wc r q
                  have hCO := req_one r q
                  unfold reqVs at hCC hCO
                  have HCC := hid hCC
                  have HCO := hid hCO
                  clear hL ho hr hl0 ho' hCC hCO
                  go_wp2_with (at_builtin; refine wpList_append_own_at _ rfl _ _ 22 rfl w.heap.size 61 iC (.agg #[.string ⟨#[]⟩, .string ⟨#[]⟩, .int .i64 0, .slice none 0 0]) 4 64 Tryz.underlying22 hiC hzC hsiC hbyC rfl (by decide) (.slice Al j cl) j (reqVals Lr) rfl (World.ownsRow.alloc HO'.out _) ⟨wc.heap.size, 0, none⟩ 1 1 [.string (ba r.s), .string (ba r.c), .int .i64 r.p, .slice q.1 r.l.length q.2] rfl rfl HCC.out HCO.out HM1.out HM2.out (HBS.out _) ?_)
                  intro v' w8 hown hgrow _ hat
                  obtain ⟨gB, cB, rfl⟩ := S3.row_slice hown
                  have HA := hid (KR.app (HKX.out.k.alloc _) ((HKX.out.i.kept (fun k hk => heap_alloc_old wc _ hk.2.1)).mono (fun k hk => ⟨hk.1, by simp; omega⟩)) HLL.out (World.ownsRow.alloc HOO.out _) (fun p hp => (HRR.out p hp).kept (fun k hk => heap_alloc_old wc _ (by have := HKX.out.k.c1; omega))) (by rw [HL0.out]; exact hown) hgrow (hat.imp id (fun h => ⟨_, h, by simp⟩)))
                  have HMA := hid (hM.out.app HND.out HR.out hz hs5)
                  clear hown hgrow hat HKX HLL HRR HOO HO' HM1 HM2 HBS HCC HCO
                  go_wp2
                  go_roundw
                  case rel => exact ⟨i + 1, j + 1, _, ls ++ [r], _, _, rfl, by go_num, by omega, hid (by rw [List.length_append, hlj.out]; rfl), HMA, HA⟩
                  case measure => simp [RowKit.intOf]; omega
            | false =>
              go_wp2
              go_roundw
              case rel => exact ⟨i + 1, j, C, ls, Al, cl, rfl, by go_num, by omega, hlj, hid hM.out.skip, HK3⟩
              case measure => simp [RowKit.intOf]; omega
          · have hltz : ¬ (i : Int) < (SN : Int) := by omega
            obtain rfl : i = SN := by omega
            go_wp2
            go_roundw
            case rel => exact ⟨sn - 1, j, C, ls, Al, cl, rfl, by congr 1; omega, by omega, hlj, hid (MadeQ.next (by rw [HSN.out]; exact hM.out) hz hs5), hK⟩
            case measure => simp [RowKit.intOf]; omega
      · have hs00 : SN = 0 := by omega
        subst hs00
        have hnil : names = [] := List.eq_nil_of_length_eq_zero HSN.out
        have HEND : Hid (RequestsP names g c A L w (.returned (.slice Alo jo clo)) wr) := hid (hKo.out.out ⟨fun x hx => by
          obtain ⟨s', i', h1, _⟩ := hMo.out.all x hx
          have := h1.c
          rw [hnil] at this
          simp at this, hMo.out.nd, by have := hMo.out.len; rw [HSN.out] at this ⊢; omega⟩)
        clear hKo
        go_wp2
        go_ret
        exact HEND.out
    · have hz0 : sn = 0 := by omega
      subst hz0
      have HEND := hid (hKo.out.out hMo.out)
      clear hKo
      go_wp2
      go_ret
      exact HEND.out
end Go.Proofs.YtlgmanbilaminaaGreatDoor.S12
