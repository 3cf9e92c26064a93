/-
  The walk of Dice.Class: a class as it is made. Conditions: dice in memory, behind the table of features; a grid of at most 100 days and slots, at most 20 weeks.
-/
import Derived.Test.YtlgmanbilaminaaGreatDoorMN06
set_option linter.unusedVariables false
namespace Go.Proofs.YtlgmanbilaminaaGreatDoor.S10
open Go Go.Proofs Go.RowKit Go.Lib Go.Proofs.YtlgmanbilaminaaGreatDoor
set_option maxHeartbeats 64000000 in
set_option maxRecDepth 100000 in
theorem class_any (g c k FB fo fc : Nat) (A : Option Addr) (L : List Int) (d s b m : Int) (n : Nat) (code : Str) (h1 : 1 ≤ n) (h2 : n ≤ 20) (hd1 : 1 ≤ d) (hd2 : d ≤ 100) (hs1 : 1 ≤ s) (hs2 : s ≤ 100) (w : World) (h : DiceAt w g A L c k)
    (hF : FeatAt w FB fo fc) (hg1 : 0 < g) (hg2 : FB < g) :
    Calls Tryz.prog 53 #[.pointer (some ⟨g, 0, none⟩), .agg #[.int .i64 d, .int .i64 s, .int .i64 b, .int .i64 m], .int .i64 (n : Int), .string (ba code)] w (ClassP d s n code g c A L w) := by
  obtain ⟨i9, hi9, hz9, hsi9, hby9⟩ := info_parts infoStart
  obtain ⟨i3, hi3, hz3, hsi3, hby3⟩ := info_parts infoInt
  have HN : Hid (∀ (W : World) (q : Int), 1 ≤ q → q ≤ 4294967296 → (∃ k, DiceAt W g A L c k) → Calls Tryz.prog 28 #[.pointer (some ⟨g, 0, none⟩), .int .i64 q] W fun e w' => ∃ r : Nat, e = .returned (.int .i64 (r : Int)) ∧ (r : Int) < q ∧ ∃ k', DiceAt w' g A L c k' ∧ Rolled g W w') := hid (fun W q hq hq2 ⟨k, hd⟩ => by
    refine (next_any g c k A L q hq2 W hd).mono ?_
    rintro e w' ⟨⟨r, rfl, hr⟩, ⟨k', hd'⟩, hR⟩
    obtain ⟨hr0, hr1⟩ := hr hq
    obtain ⟨q0, rfl⟩ : ∃ q : Nat, r = (q : Int) := ⟨r.toNat, by omega⟩
    exact ⟨q0, rfl, hr1, k', hd', hR⟩)
  have HO : Hid (∀ (W : World) (q : Int), 1 ≤ q → q ≤ 4294967296 → (∃ k, DiceAt W g A L c k) → Calls Tryz.prog 27 #[.pointer (some ⟨g, 0, none⟩), .int .i64 q] W fun e w' => ∃ r : Bool, e = .returned (.bool r) ∧ ∃ k', DiceAt w' g A L c k' ∧ Rolled g W w') := hid (fun W q hq hq2 ⟨k, hd⟩ => by
    refine (one_any g c k A L q hq2 hq W hd).mono ?_
    rintro e w' ⟨⟨r, rfl⟩, ⟨k', hd'⟩, hR⟩
    exact ⟨r, rfl, k', hd', hR⟩)
  have HS : Hid (∀ (W : World), (∃ k, DiceAt W g A L c k) → Calls Tryz.prog 85 #[.pointer (some ⟨g, 0, none⟩), .int .i64 (n : Int)] W fun e w' => ∃ S : Int, e = .returned (.int .i64 S) ∧ (1 ≤ S ∧ S < 2 ^ n) ∧ ∃ k', DiceAt w' g A L c k' ∧ Rolled g W w') := hid (fun W ⟨k, hd⟩ => by
    refine (set_any n h1 h2 g c k A L W hd).mono ?_
    rintro e w' ⟨⟨S, rfl, hS⟩, ⟨k', hd'⟩, hR⟩
    exact ⟨S, rfl, hS, k', hd', hR⟩)
  have hgl := h.lt
  have HM : Hid (∀ (W : World), (∃ k, DiceAt W g A L c k) → FeatAt W FB fo fc → FB < W.heap.size → Calls Tryz.prog 54 #[.pointer (some ⟨g, 0, none⟩), .slice (some ⟨FB, fo, none⟩) 3 fc, .int .i64 3] W fun e w' => ∃ (ss : List Str) (Ar : Option Addr) (cr : Nat), e = .returned (.slice Ar ss.length cr) ∧ ss.Sublist featureS ∧ S3.StrRow w' W.heap.size (.slice Ar ss.length cr) ss ∧ ∃ k', DE W g c A L k' w') := hid (fun W ⟨k, hd⟩ hf hb => by
    refine (some_any g c k A L 3 (by omega) (by omega) (some ⟨FB, fo, none⟩) featureS fc W hd (.inr ⟨FB, fo, rfl, ⟨hb, by omega⟩, hf.cs⟩) (by decide)).mono ?_
    rintro e w' ⟨ss, v, k', rfl, hsub, hrow, he⟩
    obtain ⟨Ar, cr, rfl⟩ := S3.row_slice hrow
    exact ⟨ss, Ar, cr, rfl, hsub, hrow, k', he⟩)
  have HF : Hid (∀ W CB x q, CC w g c A L d s b m CB x q W → FeatAt W FB fo fc ∧ FB < W.heap.size) := hid (fun W CB x q hc => by
    obtain ⟨k, he⟩ := hc.e
    have := hc.size
    exact ⟨hF.kept (he.p.block _ (by omega) (by omega)) (he.p.block _ (by omega) (by omega)), by omega⟩)
  obtain ⟨w1, hw1⟩ : ∃ w1, (w.alloc (.cells #[.int .i64 d, .int .i64 s, .int .i64 b, .int .i64 m] 52)).alloc (.cells #[.string ⟨#[]⟩, .string ⟨#[]⟩, .string ⟨#[]⟩, .int .i64 0, .slice none 0 0, .int .i64 0, .slice none 0 0, .slice none 0 0, .slice none 0 0] 95) = w1 := ⟨_, rfl⟩
  have H0 : Hid (RG w g c A L d s b m none none none w1) := hid (by rw [← hw1]; exact RG.first h d s b m)
  have HW1 := hid hw1
  clear h hF hg1 hg2 hw1 hgl
  go_enter Tryz.func53, Tryz.ntmps53
  go_upto_region 1 with fail
  (try rw [HW1.out])
  clear HW1
  go_cut [9] (fun pv wx => ∃ (CB k1 k2 : Nat) (len : Int), pv = .pointer (some ⟨CB, 0, none⟩) ∧ Hid ((k1 < 3 ∧ k2 < 2) ∧ 1 ≤ len ∧ len ≤ 2 ∧ len ≤ s) ∧ Hid (CC w g c A L d s b m CB ⟨code, courseS k1, partS k2, len, [], 0, [], [], []⟩ ⟨none, 0, none, 0, none, 0, none, 0⟩ wx))
  case first =>
    have cmin : 1 ≤ min 2 s ∧ min 2 s ≤ 2 ∧ min 2 s ≤ s := by omega
    refine wp_region_held_drew (S := RG w g c A L d s b m none none none) (by kernel_rfl) (H0.out.next (Below.refl _ _).drew) (fun hHeld => ?_)
    generalize w1.drew = wd at hHeld ⊢
    (refine wpAnyH_take (i := 0) (oi := _) (v := ?_) rfl (by kernel_rfl) (by kernel_rfl) (by decide +kernel) (fun _ _ _ h => h) (Or.inl ⟨by rfl, ?_⟩) (by assumption) ?_; rotate_left; (intro wS hSw; skip; (try simp only [List.getElem_toArray, List.getElem_cons_zero]); go_simp; (try with_reducible rfl)))
    (try simp only [List.getElem_toArray, List.getElem_cons_zero, Act.put, List.setIfInBounds_toArray, List.set_cons_zero, List.set_cons_succ])
    (refine wpAnyH_take (i := 2) (oi := _) (v := ?_) rfl (by kernel_rfl) (by kernel_rfl) (by decide +kernel) (fun _ _ _ h => h) (Or.inl ⟨by rfl, ?_⟩) (by assumption) ?_; rotate_left; (intro wS hSw; skip; (try simp only [List.getElem_toArray, List.getElem_cons_succ, List.getElem_cons_zero]); go_simp; (try with_reducible rfl)))
    (try simp only [List.getElem_toArray, List.getElem_cons_succ, List.getElem_cons_zero, Act.put, List.setIfInBounds_toArray, List.set_cons_zero, List.set_cons_succ])
    (refine wpAnyH_take (i := 7) (oi := _) (v := ?_) rfl (by kernel_rfl) (by kernel_rfl) (by decide +kernel) (fun _ _ _ h => h) (Or.inl ⟨by rfl, ?_⟩) (by assumption) ?_; rotate_left; (intro wS hSw; skip; (try simp only [List.getElem_toArray, List.getElem_cons_succ, List.getElem_cons_zero]); go_simp; (try with_reducible rfl)))
    (try simp only [List.getElem_toArray, List.getElem_cons_succ, List.getElem_cons_zero, Act.put, List.setIfInBounds_toArray, List.set_cons_zero, List.set_cons_succ])
    (refine wpAnyH_take (i := 11) (oi := _) (v := ?_) rfl (by kernel_rfl) (by kernel_rfl) (by decide +kernel) (fun _ _ _ h => h) (Or.inl ⟨by rfl, ?_⟩) (by assumption) ?_; rotate_left; (intro wS hSw; skip; (try simp only [List.getElem_toArray, List.getElem_cons_succ, List.getElem_cons_zero]); go_simp; (try with_reducible rfl)))
    (try simp only [List.getElem_toArray, List.getElem_cons_succ, List.getElem_cons_zero, Act.put, List.setIfInBounds_toArray, List.set_cons_zero, List.set_cons_succ])
    (refine wpAnyH_take (i := 12) (oi := _) (v := ?_) rfl (by kernel_rfl) (by kernel_rfl) (by decide +kernel) (fun _ _ _ h => h) (Or.inl ⟨by rfl, ?_⟩) (by assumption) ?_; rotate_left; (intro wS hSw; skip; (try simp only [List.getElem_toArray, List.getElem_cons_succ, List.getElem_cons_zero]); go_simp; (try with_reducible rfl)))
    (try simp only [List.getElem_toArray, List.getElem_cons_succ, List.getElem_cons_zero, Act.put, List.setIfInBounds_toArray, List.set_cons_zero, List.set_cons_succ])
    (refine wpAnyH_take (i := 13) (oi := _) (v := ?_) rfl (by kernel_rfl) (by kernel_rfl) (by decide +kernel) (fun _ _ _ h => h) (Or.inl ⟨by rfl, ?_⟩) (by assumption) ?_; rotate_left; (intro wS hSw; have g1 := hSw.x.box.c1; (try simp only [List.getElem_toArray, List.getElem_cons_succ, List.getElem_cons_zero]); go_simp; (try with_reducible rfl)))
    (try simp only [List.getElem_toArray, List.getElem_cons_succ, List.getElem_cons_zero, Act.put, List.setIfInBounds_toArray, List.set_cons_zero, List.set_cons_succ])
    (refine wpAnyH_take (i := 14) (oi := _) (v := ?_) rfl (by kernel_rfl) (by kernel_rfl) (by decide +kernel) (fun _ _ _ h => h) (Or.inl ⟨by rfl, ?_⟩) (by assumption) ?_; rotate_left; (intro wS hSw; skip; (try simp only [List.getElem_toArray, List.getElem_cons_succ, List.getElem_cons_zero]); go_simp; (try with_reducible rfl)))
    (try simp only [List.getElem_toArray, List.getElem_cons_succ, List.getElem_cons_zero, Act.put, List.setIfInBounds_toArray, List.set_cons_zero, List.set_cons_succ])
    refine anyH_gen (fun ops' Q' hops hQ => ?_)
    have k1113 : ∀ (bA bB bD r1 r2 r3 : Nat) (wx : World), r1 < 3 → r2 < 2 → (r3 : Int) < min 2 s → RG w g c A L d s b m (some bA) (some bB) (some bD) wx → wpAnyH Tryz.prog .any ops' Q' (RG w g c A L d s b m (some bA) (some bB) (some bD)) 1 #[true, true, true, true, true, true, true, true, true, true, true, true, true, true, true, true, true, true, true, false] (actC g w.heap.size d s b m (n : Int) code (.pointer (some ⟨bD, 0, none⟩)) (.slice (some ⟨bA, 0, none⟩) 3 3) (.int .i64 (r1 : Int)) (.pointer (some ⟨bA, r1, none⟩)) (.string (ba (courseS r1))) (.slice (some ⟨bB, 0, none⟩) 2 2) (.int .i64 (r2 : Int)) (.pointer (some ⟨bB, r2, none⟩)) (.string (ba (partS r2))) (.int .i64 (r3 : Int)) (.int .i64 (1 + (r3 : Int))) (.agg #[.string (ba code), .string (ba (courseS r1)), .string (ba (partS r2)), .int .i64 (1 + (r3 : Int)), .slice none 0 0, .int .i64 0, .slice none 0 0, .slice none 0 0, .slice none 0 0])) wx := by
      intro bA bB bD r1 r2 r3 wx hn1 hn2 hr3 hHeld
      subst hops hQ
      clear H0
      unfold actC
      have hz1 : (0 : Int) ≤ (r1 : Int) := (by omega)
      have hl1 : (r1 : Int) < 3 := (by omega)
      have hz2 : (0 : Int) ≤ (r2 : Int) := (by omega)
      have hl2 : (r2 : Int) < 2 := (by omega)
      have hq3 : IntKind.i64.wrap (1 + (r3 : Int)) = 1 + (r3 : Int) := IntWalk.i64_in _ (by omega)
      obtain ⟨hkb, u0, u1, u2, u3, u4, u5, u6, u7, u8, hD⟩ := hHeld.n _ rfl
      obtain ⟨y0, y1, y2, y3, y4, y5, y6, y7, y8⟩ := hD.cells
      have f0 := hD.free 0
      have f1 := hD.free 1
      have f2 := hD.free 2
      have f3 := hD.free 3
      have f4 := hD.free 4
      have f5 := hD.free 5
      have f6 := hD.free 6
      have f7 := hD.free 7
      have f8 := hD.free 8
      have HST := hid (hHeld.start code (courseS r1) (partS r2) (1 + (r3 : Int)))
      have HFC : Hid ((r1 < 3 ∧ r2 < 2) ∧ 1 ≤ 1 + (r3 : Int) ∧ 1 + (r3 : Int) ≤ 2 ∧ 1 + (r3 : Int) ≤ s) := hid ⟨⟨hn1, hn2⟩, by omega, by omega, by omega⟩
      refine wpAnyH_ready (rs := [19]) (by kernel_rfl) (by simp) ?_
      refine AllReadyH.cons (o := _) rfl (fun K hK => ?_) AllReadyH.nil
      (try simp only [List.getElem_toArray, List.getElem_cons_succ, List.getElem_cons_zero])
      go_simp
      refine hK.out _ _ (hHeld.stored _ _ _ _ _ _ _ _ _) (fun _ => ?_)
      clear hK K hHeld
      (try simp only [List.setIfInBounds_toArray, List.set_cons_zero, List.set_cons_succ])
      refine wpAnyH_done (by kernel_rfl) ?_ _
      go_wp2_with fail
      go_meet
      exact ⟨bD, r1, r2, 1 + (r3 : Int), rfl, HFC, HST⟩
    have k0113 : ∀ (bB bD r1 r2 r3 : Nat) (wx : World), r1 < 3 → r2 < 2 → (r3 : Int) < min 2 s → RG w g c A L d s b m none (some bB) (some bD) wx → wpAnyH Tryz.prog .any ops' Q' (RG w g c A L d s b m none (some bB) (some bD)) 5 #[true, false, true, true, false, false, true, true, true, true, true, true, true, true, true, true, true, false, true, false] (actC g w.heap.size d s b m (n : Int) code (.pointer (some ⟨bD, 0, none⟩)) undef (.int .i64 (r1 : Int)) undef undef (.slice (some ⟨bB, 0, none⟩) 2 2) (.int .i64 (r2 : Int)) (.pointer (some ⟨bB, r2, none⟩)) (.string (ba (partS r2))) (.int .i64 (r3 : Int)) (.int .i64 (1 + (r3 : Int))) undef) wx := by
      intro bB bD r1 r2 r3 wx hn1 hn2 hr3 hHeld
      subst hops hQ
      clear H0
      unfold actC
      have hz1 : (0 : Int) ≤ (r1 : Int) := (by omega)
      have hl1 : (r1 : Int) < 3 := (by omega)
      have hz2 : (0 : Int) ≤ (r2 : Int) := (by omega)
      have hl2 : (r2 : Int) < 2 := (by omega)
      have hq3 : IntKind.i64.wrap (1 + (r3 : Int)) = 1 + (r3 : Int) := IntWalk.i64_in _ (by omega)
      refine wpAnyH_ready (rs := [1]) (by kernel_rfl) (by simp) ?_
      refine AllReadyH.cons (o := _) rfl (fun K hK => ?_) AllReadyH.nil
      ((try simp only [List.getElem_toArray, List.getElem_cons_succ, List.getElem_cons_zero]); go_simp; obtain ⟨bA, hnm, hNew⟩ := hHeld.newA'; rw [← hnm]; generalize hwn : World.alloc _ _ = wn at hNew ⊢; refine hK.out _ _ hNew.dropA (fun _ => ?_); clear hK K hHeld hwn hnm; have hHeld := hNew; clear hNew; refine anyH_more (S' := RG w g c A L d s b m (some bA) (some bB) (some bD)) (fun _ hx => hx.dropA) _ _ _ _ ?_; (try simp only [List.setIfInBounds_toArray, List.set_cons_zero, List.set_cons_succ]); (refine wpAnyH_take (i := 4) (oi := _) (v := ?_) rfl (by kernel_rfl) (by kernel_rfl) (by decide +kernel) (fun _ _ _ h => h) (Or.inl ⟨by rfl, ?_⟩) (by assumption) ?_; rotate_left; (intro wS hSw; skip; (try simp only [List.getElem_toArray, List.getElem_cons_succ, List.getElem_cons_zero]); go_simp; (try with_reducible rfl))); (try simp only [List.getElem_toArray, List.getElem_cons_succ, List.getElem_cons_zero, Act.put, List.setIfInBounds_toArray, List.set_cons_zero, List.set_cons_succ]); (refine wpAnyH_take (i := 5) (oi := _) (v := ?_) rfl (by kernel_rfl) (by kernel_rfl) (by decide +kernel) (fun _ _ _ h => h) (Or.inl ⟨by rfl, ?_⟩) (by assumption) ?_; rotate_left; (intro wS hSw; have a5 := (hSw.a _ rfl).2.2 r1 hn1; (try simp only [List.getElem_toArray, List.getElem_cons_succ, List.getElem_cons_zero]); go_simp; (try with_reducible rfl))); (try simp only [List.getElem_toArray, List.getElem_cons_succ, List.getElem_cons_zero, Act.put, List.setIfInBounds_toArray, List.set_cons_zero, List.set_cons_succ]); (refine wpAnyH_take (i := 17) (oi := _) (v := ?_) rfl (by kernel_rfl) (by kernel_rfl) (by decide +kernel) (fun _ _ _ h => h) (Or.inl ⟨by rfl, ?_⟩) (by assumption) ?_; rotate_left; (intro wS hSw; skip; (try simp only [List.getElem_toArray, List.getElem_cons_succ, List.getElem_cons_zero]); go_simp; (try with_reducible rfl))); (try simp only [List.getElem_toArray, List.getElem_cons_succ, List.getElem_cons_zero, Act.put, List.setIfInBounds_toArray, List.set_cons_zero, List.set_cons_succ]); refine anyH_listed (listed' := #[true, true, true, true, true, true, true, true, true, true, true, true, true, true, true, true, true, true, true, false]) (by decide +kernel) ?_; exact k1113 bA bB bD r1 r2 r3 _ hn1 hn2 hr3 hHeld)
    have k1013 : ∀ (bA bD r1 r2 r3 : Nat) (wx : World), r1 < 3 → r2 < 2 → (r3 : Int) < min 2 s → RG w g c A L d s b m (some bA) none (some bD) wx → wpAnyH Tryz.prog .any ops' Q' (RG w g c A L d s b m (some bA) none (some bD)) 5 #[true, true, true, true, true, true, false, true, true, false, false, true, true, true, true, true, true, false, true, false] (actC g w.heap.size d s b m (n : Int) code (.pointer (some ⟨bD, 0, none⟩)) (.slice (some ⟨bA, 0, none⟩) 3 3) (.int .i64 (r1 : Int)) (.pointer (some ⟨bA, r1, none⟩)) (.string (ba (courseS r1))) undef (.int .i64 (r2 : Int)) undef undef (.int .i64 (r3 : Int)) (.int .i64 (1 + (r3 : Int))) undef) wx := by
      intro bA bD r1 r2 r3 wx hn1 hn2 hr3 hHeld
      subst hops hQ
      clear H0
      unfold actC
      have hz1 : (0 : Int) ≤ (r1 : Int) := (by omega)
      have hl1 : (r1 : Int) < 3 := (by omega)
      have hz2 : (0 : Int) ≤ (r2 : Int) := (by omega)
      have hl2 : (r2 : Int) < 2 := (by omega)
      have hq3 : IntKind.i64.wrap (1 + (r3 : Int)) = 1 + (r3 : Int) := IntWalk.i64_in _ (by omega)
      refine wpAnyH_ready (rs := [6]) (by kernel_rfl) (by simp) ?_
      refine AllReadyH.cons (o := _) rfl (fun K hK => ?_) AllReadyH.nil
      ((try simp only [List.getElem_toArray, List.getElem_cons_succ, List.getElem_cons_zero]); go_simp; obtain ⟨bB, hnm, hNew⟩ := hHeld.newB'; rw [← hnm]; generalize hwn : World.alloc _ _ = wn at hNew ⊢; refine hK.out _ _ hNew.dropB (fun _ => ?_); clear hK K hHeld hwn hnm; have hHeld := hNew; clear hNew; refine anyH_more (S' := RG w g c A L d s b m (some bA) (some bB) (some bD)) (fun _ hx => hx.dropB) _ _ _ _ ?_; (try simp only [List.setIfInBounds_toArray, List.set_cons_zero, List.set_cons_succ]); (refine wpAnyH_take (i := 9) (oi := _) (v := ?_) rfl (by kernel_rfl) (by kernel_rfl) (by decide +kernel) (fun _ _ _ h => h) (Or.inl ⟨by rfl, ?_⟩) (by assumption) ?_; rotate_left; (intro wS hSw; skip; (try simp only [List.getElem_toArray, List.getElem_cons_succ, List.getElem_cons_zero]); go_simp; (try with_reducible rfl))); (try simp only [List.getElem_toArray, List.getElem_cons_succ, List.getElem_cons_zero, Act.put, List.setIfInBounds_toArray, List.set_cons_zero, List.set_cons_succ]); (refine wpAnyH_take (i := 10) (oi := _) (v := ?_) rfl (by kernel_rfl) (by kernel_rfl) (by decide +kernel) (fun _ _ _ h => h) (Or.inl ⟨by rfl, ?_⟩) (by assumption) ?_; rotate_left; (intro wS hSw; have a10 := (hSw.p _ rfl).2.2 r2 hn2; (try simp only [List.getElem_toArray, List.getElem_cons_succ, List.getElem_cons_zero]); go_simp; (try with_reducible rfl))); (try simp only [List.getElem_toArray, List.getElem_cons_succ, List.getElem_cons_zero, Act.put, List.setIfInBounds_toArray, List.set_cons_zero, List.set_cons_succ]); (refine wpAnyH_take (i := 17) (oi := _) (v := ?_) rfl (by kernel_rfl) (by kernel_rfl) (by decide +kernel) (fun _ _ _ h => h) (Or.inl ⟨by rfl, ?_⟩) (by assumption) ?_; rotate_left; (intro wS hSw; skip; (try simp only [List.getElem_toArray, List.getElem_cons_succ, List.getElem_cons_zero]); go_simp; (try with_reducible rfl))); (try simp only [List.getElem_toArray, List.getElem_cons_succ, List.getElem_cons_zero, Act.put, List.setIfInBounds_toArray, List.set_cons_zero, List.set_cons_succ]); refine anyH_listed (listed' := #[true, true, true, true, true, true, true, true, true, true, true, true, true, true, true, true, true, true, true, false]) (by decide +kernel) ?_; exact k1113 bA bB bD r1 r2 r3 _ hn1 hn2 hr3 hHeld)
    have k1103 : ∀ (bA bB r1 r2 r3 : Nat) (wx : World), r1 < 3 → r2 < 2 → (r3 : Int) < min 2 s → RG w g c A L d s b m (some bA) (some bB) none wx → wpAnyH Tryz.prog .any ops' Q' (RG w g c A L d s b m (some bA) (some bB) none) 2 #[true, true, true, true, true, true, true, true, true, true, true, true, true, true, true, true, true, true, false, false] (actC g w.heap.size d s b m (n : Int) code undef (.slice (some ⟨bA, 0, none⟩) 3 3) (.int .i64 (r1 : Int)) (.pointer (some ⟨bA, r1, none⟩)) (.string (ba (courseS r1))) (.slice (some ⟨bB, 0, none⟩) 2 2) (.int .i64 (r2 : Int)) (.pointer (some ⟨bB, r2, none⟩)) (.string (ba (partS r2))) (.int .i64 (r3 : Int)) (.int .i64 (1 + (r3 : Int))) (.agg #[.string (ba code), .string (ba (courseS r1)), .string (ba (partS r2)), .int .i64 (1 + (r3 : Int)), .slice none 0 0, .int .i64 0, .slice none 0 0, .slice none 0 0, .slice none 0 0])) wx := by
      intro bA bB r1 r2 r3 wx hn1 hn2 hr3 hHeld
      subst hops hQ
      clear H0
      unfold actC
      have hz1 : (0 : Int) ≤ (r1 : Int) := (by omega)
      have hl1 : (r1 : Int) < 3 := (by omega)
      have hz2 : (0 : Int) ≤ (r2 : Int) := (by omega)
      have hl2 : (r2 : Int) < 2 := (by omega)
      have hq3 : IntKind.i64.wrap (1 + (r3 : Int)) = 1 + (r3 : Int) := IntWalk.i64_in _ (by omega)
      refine wpAnyH_ready (rs := [18]) (by kernel_rfl) (by simp) ?_
      refine AllReadyH.cons (o := _) rfl (fun K hK => ?_) AllReadyH.nil
      ((try simp only [List.getElem_toArray, List.getElem_cons_succ, List.getElem_cons_zero]); go_simp; obtain ⟨bD, hnm, hNew⟩ := hHeld.newD'; rw [← hnm]; generalize hwn : World.alloc _ _ = wn at hNew ⊢; refine hK.out _ _ hNew.dropD (fun _ => ?_); clear hK K hHeld hwn hnm; have hHeld := hNew; clear hNew; refine anyH_more (S' := RG w g c A L d s b m (some bA) (some bB) (some bD)) (fun _ hx => hx.dropD) _ _ _ _ ?_; (try simp only [List.setIfInBounds_toArray, List.set_cons_zero, List.set_cons_succ]); refine anyH_listed (listed' := #[true, true, true, true, true, true, true, true, true, true, true, true, true, true, true, true, true, true, true, false]) (by decide +kernel) ?_; exact k1113 bA bB bD r1 r2 r3 _ hn1 hn2 hr3 hHeld)
    have k1112 : ∀ (bA bB bD r1 r2 : Nat) (wx : World), r1 < 3 → r2 < 2 → RG w g c A L d s b m (some bA) (some bB) (some bD) wx → wpAnyH Tryz.prog .any ops' Q' (RG w g c A L d s b m (some bA) (some bB) (some bD)) 4 #[true, true, true, true, true, true, true, true, true, true, true, true, true, true, true, false, false, false, true, false] (actC g w.heap.size d s b m (n : Int) code (.pointer (some ⟨bD, 0, none⟩)) (.slice (some ⟨bA, 0, none⟩) 3 3) (.int .i64 (r1 : Int)) (.pointer (some ⟨bA, r1, none⟩)) (.string (ba (courseS r1))) (.slice (some ⟨bB, 0, none⟩) 2 2) (.int .i64 (r2 : Int)) (.pointer (some ⟨bB, r2, none⟩)) (.string (ba (partS r2))) undef undef undef) wx := by
      intro bA bB bD r1 r2 wx hn1 hn2 hHeld
      subst hops hQ
      clear H0
      unfold actC
      have hz1 : (0 : Int) ≤ (r1 : Int) := (by omega)
      have hl1 : (r1 : Int) < 3 := (by omega)
      have hz2 : (0 : Int) ≤ (r2 : Int) := (by omega)
      have hl2 : (r2 : Int) < 2 := (by omega)
      refine wpAnyH_ready (rs := [15]) (by kernel_rfl) (by simp) ?_
      refine AllReadyH.cons (o := _) rfl (fun K hK => ?_) AllReadyH.nil
      ((try simp only [List.getElem_toArray, List.getElem_cons_succ, List.getElem_cons_zero]); go_simp; go_at_call 28; refine (HN.out _ _ (by omega) (by omega) hHeld.dice).mono ?_; rintro e wcx ⟨r3, rfl, hr3, kk, hdd, hRR⟩; have hHeld := hHeld.roll hdd hRR; clear hdd hRR; have hq3 : IntKind.i64.wrap (1 + (r3 : Int)) = 1 + (r3 : Int) := IntWalk.i64_in _ (by omega); refine hK.out _ _ hHeld (fun hHeld => ?_); clear hK K; (try simp only [List.setIfInBounds_toArray, List.set_cons_zero, List.set_cons_succ]); (refine wpAnyH_take (i := 16) (oi := _) (v := ?_) rfl (by kernel_rfl) (by kernel_rfl) (by decide +kernel) (fun _ _ _ h => h) (Or.inl ⟨by rfl, ?_⟩) (by assumption) ?_; rotate_left; (intro wS hSw; skip; (try simp only [List.getElem_toArray, List.getElem_cons_succ, List.getElem_cons_zero]); go_simp; (try with_reducible rfl))); (try simp only [List.getElem_toArray, List.getElem_cons_succ, List.getElem_cons_zero, Act.put, List.setIfInBounds_toArray, List.set_cons_zero, List.set_cons_succ]); (refine wpAnyH_take (i := 17) (oi := _) (v := ?_) rfl (by kernel_rfl) (by kernel_rfl) (by decide +kernel) (fun _ _ _ h => h) (Or.inl ⟨by rfl, ?_⟩) (by assumption) ?_; rotate_left; (intro wS hSw; skip; (try simp only [List.getElem_toArray, List.getElem_cons_succ, List.getElem_cons_zero]); go_simp; (try with_reducible rfl))); (try simp only [List.getElem_toArray, List.getElem_cons_succ, List.getElem_cons_zero, Act.put, List.setIfInBounds_toArray, List.set_cons_zero, List.set_cons_succ]); refine anyH_listed (listed' := #[true, true, true, true, true, true, true, true, true, true, true, true, true, true, true, true, true, true, true, false]) (by decide +kernel) ?_; exact k1113 bA bB bD r1 r2 r3 _ hn1 hn2 hr3 hHeld)
    have k0013 : ∀ (bD r1 r2 r3 : Nat) (wx : World), r1 < 3 → r2 < 2 → (r3 : Int) < min 2 s → RG w g c A L d s b m none none (some bD) wx → wpAnyH Tryz.prog .any ops' Q' (RG w g c A L d s b m none none (some bD)) 8 #[true, false, true, true, false, false, false, true, true, false, false, true, true, true, true, true, true, false, true, false] (actC g w.heap.size d s b m (n : Int) code (.pointer (some ⟨bD, 0, none⟩)) undef (.int .i64 (r1 : Int)) undef undef undef (.int .i64 (r2 : Int)) undef undef (.int .i64 (r3 : Int)) (.int .i64 (1 + (r3 : Int))) undef) wx := by
      intro bD r1 r2 r3 wx hn1 hn2 hr3 hHeld
      subst hops hQ
      clear H0
      unfold actC
      have hz1 : (0 : Int) ≤ (r1 : Int) := (by omega)
      have hl1 : (r1 : Int) < 3 := (by omega)
      have hz2 : (0 : Int) ≤ (r2 : Int) := (by omega)
      have hl2 : (r2 : Int) < 2 := (by omega)
      have hq3 : IntKind.i64.wrap (1 + (r3 : Int)) = 1 + (r3 : Int) := IntWalk.i64_in _ (by omega)
      refine wpAnyH_ready (rs := [1, 6]) (by kernel_rfl) (by simp) ?_
      refine AllReadyH.cons (o := _) rfl (fun K hK => ?_) ?_
      · ((try simp only [List.getElem_toArray, List.getElem_cons_succ, List.getElem_cons_zero]); go_simp; obtain ⟨bA, hnm, hNew⟩ := hHeld.newA'; rw [← hnm]; generalize hwn : World.alloc _ _ = wn at hNew ⊢; refine hK.out _ _ hNew.dropA (fun _ => ?_); clear hK K hHeld hwn hnm; have hHeld := hNew; clear hNew; refine anyH_more (S' := RG w g c A L d s b m (some bA) none (some bD)) (fun _ hx => hx.dropA) _ _ _ _ ?_; (try simp only [List.setIfInBounds_toArray, List.set_cons_zero, List.set_cons_succ]); (refine wpAnyH_take (i := 4) (oi := _) (v := ?_) rfl (by kernel_rfl) (by kernel_rfl) (by decide +kernel) (fun _ _ _ h => h) (Or.inl ⟨by rfl, ?_⟩) (by assumption) ?_; rotate_left; (intro wS hSw; skip; (try simp only [List.getElem_toArray, List.getElem_cons_succ, List.getElem_cons_zero]); go_simp; (try with_reducible rfl))); (try simp only [List.getElem_toArray, List.getElem_cons_succ, List.getElem_cons_zero, Act.put, List.setIfInBounds_toArray, List.set_cons_zero, List.set_cons_succ]); (refine wpAnyH_take (i := 5) (oi := _) (v := ?_) rfl (by kernel_rfl) (by kernel_rfl) (by decide +kernel) (fun _ _ _ h => h) (Or.inl ⟨by rfl, ?_⟩) (by assumption) ?_; rotate_left; (intro wS hSw; have a5 := (hSw.a _ rfl).2.2 r1 hn1; (try simp only [List.getElem_toArray, List.getElem_cons_succ, List.getElem_cons_zero]); go_simp; (try with_reducible rfl))); (try simp only [List.getElem_toArray, List.getElem_cons_succ, List.getElem_cons_zero, Act.put, List.setIfInBounds_toArray, List.set_cons_zero, List.set_cons_succ]); refine anyH_listed (listed' := #[true, true, true, true, true, true, false, true, true, false, false, true, true, true, true, true, true, false, true, false]) (by decide +kernel) ?_; exact k1013 bA bD r1 r2 r3 _ hn1 hn2 hr3 hHeld)
      refine AllReadyH.cons (o := _) rfl (fun K hK => ?_) AllReadyH.nil
      ((try simp only [List.getElem_toArray, List.getElem_cons_succ, List.getElem_cons_zero]); go_simp; obtain ⟨bB, hnm, hNew⟩ := hHeld.newB'; rw [← hnm]; generalize hwn : World.alloc _ _ = wn at hNew ⊢; refine hK.out _ _ hNew.dropB (fun _ => ?_); clear hK K hHeld hwn hnm; have hHeld := hNew; clear hNew; refine anyH_more (S' := RG w g c A L d s b m none (some bB) (some bD)) (fun _ hx => hx.dropB) _ _ _ _ ?_; (try simp only [List.setIfInBounds_toArray, List.set_cons_zero, List.set_cons_succ]); (refine wpAnyH_take (i := 9) (oi := _) (v := ?_) rfl (by kernel_rfl) (by kernel_rfl) (by decide +kernel) (fun _ _ _ h => h) (Or.inl ⟨by rfl, ?_⟩) (by assumption) ?_; rotate_left; (intro wS hSw; skip; (try simp only [List.getElem_toArray, List.getElem_cons_succ, List.getElem_cons_zero]); go_simp; (try with_reducible rfl))); (try simp only [List.getElem_toArray, List.getElem_cons_succ, List.getElem_cons_zero, Act.put, List.setIfInBounds_toArray, List.set_cons_zero, List.set_cons_succ]); (refine wpAnyH_take (i := 10) (oi := _) (v := ?_) rfl (by kernel_rfl) (by kernel_rfl) (by decide +kernel) (fun _ _ _ h => h) (Or.inl ⟨by rfl, ?_⟩) (by assumption) ?_; rotate_left; (intro wS hSw; have a10 := (hSw.p _ rfl).2.2 r2 hn2; (try simp only [List.getElem_toArray, List.getElem_cons_succ, List.getElem_cons_zero]); go_simp; (try with_reducible rfl))); (try simp only [List.getElem_toArray, List.getElem_cons_succ, List.getElem_cons_zero, Act.put, List.setIfInBounds_toArray, List.set_cons_zero, List.set_cons_succ]); refine anyH_listed (listed' := #[true, false, true, true, false, false, true, true, true, true, true, true, true, true, true, true, true, false, true, false]) (by decide +kernel) ?_; exact k0113 bB bD r1 r2 r3 _ hn1 hn2 hr3 hHeld)
    have k0103 : ∀ (bB r1 r2 r3 : Nat) (wx : World), r1 < 3 → r2 < 2 → (r3 : Int) < min 2 s → RG w g c A L d s b m none (some bB) none wx → wpAnyH Tryz.prog .any ops' Q' (RG w g c A L d s b m none (some bB) none) 6 #[true, false, true, true, false, false, true, true, true, true, true, true, true, true, true, true, true, false, false, false] (actC g w.heap.size d s b m (n : Int) code undef undef (.int .i64 (r1 : Int)) undef undef (.slice (some ⟨bB, 0, none⟩) 2 2) (.int .i64 (r2 : Int)) (.pointer (some ⟨bB, r2, none⟩)) (.string (ba (partS r2))) (.int .i64 (r3 : Int)) (.int .i64 (1 + (r3 : Int))) undef) wx := by
      intro bB r1 r2 r3 wx hn1 hn2 hr3 hHeld
      subst hops hQ
      clear H0
      unfold actC
      have hz1 : (0 : Int) ≤ (r1 : Int) := (by omega)
      have hl1 : (r1 : Int) < 3 := (by omega)
      have hz2 : (0 : Int) ≤ (r2 : Int) := (by omega)
      have hl2 : (r2 : Int) < 2 := (by omega)
      have hq3 : IntKind.i64.wrap (1 + (r3 : Int)) = 1 + (r3 : Int) := IntWalk.i64_in _ (by omega)
      refine wpAnyH_ready (rs := [1, 18]) (by kernel_rfl) (by simp) ?_
      refine AllReadyH.cons (o := _) rfl (fun K hK => ?_) ?_
      · ((try simp only [List.getElem_toArray, List.getElem_cons_succ, List.getElem_cons_zero]); go_simp; obtain ⟨bA, hnm, hNew⟩ := hHeld.newA'; rw [← hnm]; generalize hwn : World.alloc _ _ = wn at hNew ⊢; refine hK.out _ _ hNew.dropA (fun _ => ?_); clear hK K hHeld hwn hnm; have hHeld := hNew; clear hNew; refine anyH_more (S' := RG w g c A L d s b m (some bA) (some bB) none) (fun _ hx => hx.dropA) _ _ _ _ ?_; (try simp only [List.setIfInBounds_toArray, List.set_cons_zero, List.set_cons_succ]); (refine wpAnyH_take (i := 4) (oi := _) (v := ?_) rfl (by kernel_rfl) (by kernel_rfl) (by decide +kernel) (fun _ _ _ h => h) (Or.inl ⟨by rfl, ?_⟩) (by assumption) ?_; rotate_left; (intro wS hSw; skip; (try simp only [List.getElem_toArray, List.getElem_cons_succ, List.getElem_cons_zero]); go_simp; (try with_reducible rfl))); (try simp only [List.getElem_toArray, List.getElem_cons_succ, List.getElem_cons_zero, Act.put, List.setIfInBounds_toArray, List.set_cons_zero, List.set_cons_succ]); (refine wpAnyH_take (i := 5) (oi := _) (v := ?_) rfl (by kernel_rfl) (by kernel_rfl) (by decide +kernel) (fun _ _ _ h => h) (Or.inl ⟨by rfl, ?_⟩) (by assumption) ?_; rotate_left; (intro wS hSw; have a5 := (hSw.a _ rfl).2.2 r1 hn1; (try simp only [List.getElem_toArray, List.getElem_cons_succ, List.getElem_cons_zero]); go_simp; (try with_reducible rfl))); (try simp only [List.getElem_toArray, List.getElem_cons_succ, List.getElem_cons_zero, Act.put, List.setIfInBounds_toArray, List.set_cons_zero, List.set_cons_succ]); (refine wpAnyH_take (i := 17) (oi := _) (v := ?_) rfl (by kernel_rfl) (by kernel_rfl) (by decide +kernel) (fun _ _ _ h => h) (Or.inl ⟨by rfl, ?_⟩) (by assumption) ?_; rotate_left; (intro wS hSw; skip; (try simp only [List.getElem_toArray, List.getElem_cons_succ, List.getElem_cons_zero]); go_simp; (try with_reducible rfl))); (try simp only [List.getElem_toArray, List.getElem_cons_succ, List.getElem_cons_zero, Act.put, List.setIfInBounds_toArray, List.set_cons_zero, List.set_cons_succ]); refine anyH_listed (listed' := #[true, true, true, true, true, true, true, true, true, true, true, true, true, true, true, true, true, true, false, false]) (by decide +kernel) ?_; exact k1103 bA bB r1 r2 r3 _ hn1 hn2 hr3 hHeld)
      refine AllReadyH.cons (o := _) rfl (fun K hK => ?_) AllReadyH.nil
      ((try simp only [List.getElem_toArray, List.getElem_cons_succ, List.getElem_cons_zero]); go_simp; obtain ⟨bD, hnm, hNew⟩ := hHeld.newD'; rw [← hnm]; generalize hwn : World.alloc _ _ = wn at hNew ⊢; refine hK.out _ _ hNew.dropD (fun _ => ?_); clear hK K hHeld hwn hnm; have hHeld := hNew; clear hNew; refine anyH_more (S' := RG w g c A L d s b m none (some bB) (some bD)) (fun _ hx => hx.dropD) _ _ _ _ ?_; (try simp only [List.setIfInBounds_toArray, List.set_cons_zero, List.set_cons_succ]); refine anyH_listed (listed' := #[true, false, true, true, false, false, true, true, true, true, true, true, true, true, true, true, true, false, true, false]) (by decide +kernel) ?_; exact k0113 bB bD r1 r2 r3 _ hn1 hn2 hr3 hHeld)
    have k0112 : ∀ (bB bD r1 r2 : Nat) (wx : World), r1 < 3 → r2 < 2 → RG w g c A L d s b m none (some bB) (some bD) wx → wpAnyH Tryz.prog .any ops' Q' (RG w g c A L d s b m none (some bB) (some bD)) 7 #[true, false, true, true, false, false, true, true, true, true, true, true, true, true, true, false, false, false, true, false] (actC g w.heap.size d s b m (n : Int) code (.pointer (some ⟨bD, 0, none⟩)) undef (.int .i64 (r1 : Int)) undef undef (.slice (some ⟨bB, 0, none⟩) 2 2) (.int .i64 (r2 : Int)) (.pointer (some ⟨bB, r2, none⟩)) (.string (ba (partS r2))) undef undef undef) wx := by
      intro bB bD r1 r2 wx hn1 hn2 hHeld
      subst hops hQ
      clear H0
      unfold actC
      have hz1 : (0 : Int) ≤ (r1 : Int) := (by omega)
      have hl1 : (r1 : Int) < 3 := (by omega)
      have hz2 : (0 : Int) ≤ (r2 : Int) := (by omega)
      have hl2 : (r2 : Int) < 2 := (by omega)
      refine wpAnyH_ready (rs := [1, 15]) (by kernel_rfl) (by simp) ?_
      refine AllReadyH.cons (o := _) rfl (fun K hK => ?_) ?_
      · ((try simp only [List.getElem_toArray, List.getElem_cons_succ, List.getElem_cons_zero]); go_simp; obtain ⟨bA, hnm, hNew⟩ := hHeld.newA'; rw [← hnm]; generalize hwn : World.alloc _ _ = wn at hNew ⊢; refine hK.out _ _ hNew.dropA (fun _ => ?_); clear hK K hHeld hwn hnm; have hHeld := hNew; clear hNew; refine anyH_more (S' := RG w g c A L d s b m (some bA) (some bB) (some bD)) (fun _ hx => hx.dropA) _ _ _ _ ?_; (try simp only [List.setIfInBounds_toArray, List.set_cons_zero, List.set_cons_succ]); (refine wpAnyH_take (i := 4) (oi := _) (v := ?_) rfl (by kernel_rfl) (by kernel_rfl) (by decide +kernel) (fun _ _ _ h => h) (Or.inl ⟨by rfl, ?_⟩) (by assumption) ?_; rotate_left; (intro wS hSw; skip; (try simp only [List.getElem_toArray, List.getElem_cons_succ, List.getElem_cons_zero]); go_simp; (try with_reducible rfl))); (try simp only [List.getElem_toArray, List.getElem_cons_succ, List.getElem_cons_zero, Act.put, List.setIfInBounds_toArray, List.set_cons_zero, List.set_cons_succ]); (refine wpAnyH_take (i := 5) (oi := _) (v := ?_) rfl (by kernel_rfl) (by kernel_rfl) (by decide +kernel) (fun _ _ _ h => h) (Or.inl ⟨by rfl, ?_⟩) (by assumption) ?_; rotate_left; (intro wS hSw; have a5 := (hSw.a _ rfl).2.2 r1 hn1; (try simp only [List.getElem_toArray, List.getElem_cons_succ, List.getElem_cons_zero]); go_simp; (try with_reducible rfl))); (try simp only [List.getElem_toArray, List.getElem_cons_succ, List.getElem_cons_zero, Act.put, List.setIfInBounds_toArray, List.set_cons_zero, List.set_cons_succ]); refine anyH_listed (listed' := #[true, true, true, true, true, true, true, true, true, true, true, true, true, true, true, false, false, false, true, false]) (by decide +kernel) ?_; exact k1112 bA bB bD r1 r2 _ hn1 hn2 hHeld)
      refine AllReadyH.cons (o := _) rfl (fun K hK => ?_) AllReadyH.nil
      ((try simp only [List.getElem_toArray, List.getElem_cons_succ, List.getElem_cons_zero]); go_simp; go_at_call 28; refine (HN.out _ _ (by omega) (by omega) hHeld.dice).mono ?_; rintro e wcx ⟨r3, rfl, hr3, kk, hdd, hRR⟩; have hHeld := hHeld.roll hdd hRR; clear hdd hRR; have hq3 : IntKind.i64.wrap (1 + (r3 : Int)) = 1 + (r3 : Int) := IntWalk.i64_in _ (by omega); refine hK.out _ _ hHeld (fun hHeld => ?_); clear hK K; (try simp only [List.setIfInBounds_toArray, List.set_cons_zero, List.set_cons_succ]); (refine wpAnyH_take (i := 16) (oi := _) (v := ?_) rfl (by kernel_rfl) (by kernel_rfl) (by decide +kernel) (fun _ _ _ h => h) (Or.inl ⟨by rfl, ?_⟩) (by assumption) ?_; rotate_left; (intro wS hSw; skip; (try simp only [List.getElem_toArray, List.getElem_cons_succ, List.getElem_cons_zero]); go_simp; (try with_reducible rfl))); (try simp only [List.getElem_toArray, List.getElem_cons_succ, List.getElem_cons_zero, Act.put, List.setIfInBounds_toArray, List.set_cons_zero, List.set_cons_succ]); refine anyH_listed (listed' := #[true, false, true, true, false, false, true, true, true, true, true, true, true, true, true, true, true, false, true, false]) (by decide +kernel) ?_; exact k0113 bB bD r1 r2 r3 _ hn1 hn2 hr3 hHeld)
    have k1003 : ∀ (bA r1 r2 r3 : Nat) (wx : World), r1 < 3 → r2 < 2 → (r3 : Int) < min 2 s → RG w g c A L d s b m (some bA) none none wx → wpAnyH Tryz.prog .any ops' Q' (RG w g c A L d s b m (some bA) none none) 6 #[true, true, true, true, true, true, false, true, true, false, false, true, true, true, true, true, true, false, false, false] (actC g w.heap.size d s b m (n : Int) code undef (.slice (some ⟨bA, 0, none⟩) 3 3) (.int .i64 (r1 : Int)) (.pointer (some ⟨bA, r1, none⟩)) (.string (ba (courseS r1))) undef (.int .i64 (r2 : Int)) undef undef (.int .i64 (r3 : Int)) (.int .i64 (1 + (r3 : Int))) undef) wx := by
      intro bA r1 r2 r3 wx hn1 hn2 hr3 hHeld
      subst hops hQ
      clear H0
      unfold actC
      have hz1 : (0 : Int) ≤ (r1 : Int) := (by omega)
      have hl1 : (r1 : Int) < 3 := (by omega)
      have hz2 : (0 : Int) ≤ (r2 : Int) := (by omega)
      have hl2 : (r2 : Int) < 2 := (by omega)
      have hq3 : IntKind.i64.wrap (1 + (r3 : Int)) = 1 + (r3 : Int) := IntWalk.i64_in _ (by omega)
      refine wpAnyH_ready (rs := [6, 18]) (by kernel_rfl) (by simp) ?_
      refine AllReadyH.cons (o := _) rfl (fun K hK => ?_) ?_
      · ((try simp only [List.getElem_toArray, List.getElem_cons_succ, List.getElem_cons_zero]); go_simp; obtain ⟨bB, hnm, hNew⟩ := hHeld.newB'; rw [← hnm]; generalize hwn : World.alloc _ _ = wn at hNew ⊢; refine hK.out _ _ hNew.dropB (fun _ => ?_); clear hK K hHeld hwn hnm; have hHeld := hNew; clear hNew; refine anyH_more (S' := RG w g c A L d s b m (some bA) (some bB) none) (fun _ hx => hx.dropB) _ _ _ _ ?_; (try simp only [List.setIfInBounds_toArray, List.set_cons_zero, List.set_cons_succ]); (refine wpAnyH_take (i := 9) (oi := _) (v := ?_) rfl (by kernel_rfl) (by kernel_rfl) (by decide +kernel) (fun _ _ _ h => h) (Or.inl ⟨by rfl, ?_⟩) (by assumption) ?_; rotate_left; (intro wS hSw; skip; (try simp only [List.getElem_toArray, List.getElem_cons_succ, List.getElem_cons_zero]); go_simp; (try with_reducible rfl))); (try simp only [List.getElem_toArray, List.getElem_cons_succ, List.getElem_cons_zero, Act.put, List.setIfInBounds_toArray, List.set_cons_zero, List.set_cons_succ]); (refine wpAnyH_take (i := 10) (oi := _) (v := ?_) rfl (by kernel_rfl) (by kernel_rfl) (by decide +kernel) (fun _ _ _ h => h) (Or.inl ⟨by rfl, ?_⟩) (by assumption) ?_; rotate_left; (intro wS hSw; have a10 := (hSw.p _ rfl).2.2 r2 hn2; (try simp only [List.getElem_toArray, List.getElem_cons_succ, List.getElem_cons_zero]); go_simp; (try with_reducible rfl))); (try simp only [List.getElem_toArray, List.getElem_cons_succ, List.getElem_cons_zero, Act.put, List.setIfInBounds_toArray, List.set_cons_zero, List.set_cons_succ]); (refine wpAnyH_take (i := 17) (oi := _) (v := ?_) rfl (by kernel_rfl) (by kernel_rfl) (by decide +kernel) (fun _ _ _ h => h) (Or.inl ⟨by rfl, ?_⟩) (by assumption) ?_; rotate_left; (intro wS hSw; skip; (try simp only [List.getElem_toArray, List.getElem_cons_succ, List.getElem_cons_zero]); go_simp; (try with_reducible rfl))); (try simp only [List.getElem_toArray, List.getElem_cons_succ, List.getElem_cons_zero, Act.put, List.setIfInBounds_toArray, List.set_cons_zero, List.set_cons_succ]); refine anyH_listed (listed' := #[true, true, true, true, true, true, true, true, true, true, true, true, true, true, true, true, true, true, false, false]) (by decide +kernel) ?_; exact k1103 bA bB r1 r2 r3 _ hn1 hn2 hr3 hHeld)
      refine AllReadyH.cons (o := _) rfl (fun K hK => ?_) AllReadyH.nil
      ((try simp only [List.getElem_toArray, List.getElem_cons_succ, List.getElem_cons_zero]); go_simp; obtain ⟨bD, hnm, hNew⟩ := hHeld.newD'; rw [← hnm]; generalize hwn : World.alloc _ _ = wn at hNew ⊢; refine hK.out _ _ hNew.dropD (fun _ => ?_); clear hK K hHeld hwn hnm; have hHeld := hNew; clear hNew; refine anyH_more (S' := RG w g c A L d s b m (some bA) none (some bD)) (fun _ hx => hx.dropD) _ _ _ _ ?_; (try simp only [List.setIfInBounds_toArray, List.set_cons_zero, List.set_cons_succ]); refine anyH_listed (listed' := #[true, true, true, true, true, true, false, true, true, false, false, true, true, true, true, true, true, false, true, false]) (by decide +kernel) ?_; exact k1013 bA bD r1 r2 r3 _ hn1 hn2 hr3 hHeld)
    have k1012 : ∀ (bA bD r1 r2 : Nat) (wx : World), r1 < 3 → r2 < 2 → RG w g c A L d s b m (some bA) none (some bD) wx → wpAnyH Tryz.prog .any ops' Q' (RG w g c A L d s b m (some bA) none (some bD)) 7 #[true, true, true, true, true, true, false, true, true, false, false, true, true, true, true, false, false, false, true, false] (actC g w.heap.size d s b m (n : Int) code (.pointer (some ⟨bD, 0, none⟩)) (.slice (some ⟨bA, 0, none⟩) 3 3) (.int .i64 (r1 : Int)) (.pointer (some ⟨bA, r1, none⟩)) (.string (ba (courseS r1))) undef (.int .i64 (r2 : Int)) undef undef undef undef undef) wx := by
      intro bA bD r1 r2 wx hn1 hn2 hHeld
      subst hops hQ
      clear H0
      unfold actC
      have hz1 : (0 : Int) ≤ (r1 : Int) := (by omega)
      have hl1 : (r1 : Int) < 3 := (by omega)
      have hz2 : (0 : Int) ≤ (r2 : Int) := (by omega)
      have hl2 : (r2 : Int) < 2 := (by omega)
      refine wpAnyH_ready (rs := [6, 15]) (by kernel_rfl) (by simp) ?_
      refine AllReadyH.cons (o := _) rfl (fun K hK => ?_) ?_
      · ((try simp only [List.getElem_toArray, List.getElem_cons_succ, List.getElem_cons_zero]); go_simp; obtain ⟨bB, hnm, hNew⟩ := hHeld.newB'; rw [← hnm]; generalize hwn : World.alloc _ _ = wn at hNew ⊢; refine hK.out _ _ hNew.dropB (fun _ => ?_); clear hK K hHeld hwn hnm; have hHeld := hNew; clear hNew; refine anyH_more (S' := RG w g c A L d s b m (some bA) (some bB) (some bD)) (fun _ hx => hx.dropB) _ _ _ _ ?_; (try simp only [List.setIfInBounds_toArray, List.set_cons_zero, List.set_cons_succ]); (refine wpAnyH_take (i := 9) (oi := _) (v := ?_) rfl (by kernel_rfl) (by kernel_rfl) (by decide +kernel) (fun _ _ _ h => h) (Or.inl ⟨by rfl, ?_⟩) (by assumption) ?_; rotate_left; (intro wS hSw; skip; (try simp only [List.getElem_toArray, List.getElem_cons_succ, List.getElem_cons_zero]); go_simp; (try with_reducible rfl))); (try simp only [List.getElem_toArray, List.getElem_cons_succ, List.getElem_cons_zero, Act.put, List.setIfInBounds_toArray, List.set_cons_zero, List.set_cons_succ]); (refine wpAnyH_take (i := 10) (oi := _) (v := ?_) rfl (by kernel_rfl) (by kernel_rfl) (by decide +kernel) (fun _ _ _ h => h) (Or.inl ⟨by rfl, ?_⟩) (by assumption) ?_; rotate_left; (intro wS hSw; have a10 := (hSw.p _ rfl).2.2 r2 hn2; (try simp only [List.getElem_toArray, List.getElem_cons_succ, List.getElem_cons_zero]); go_simp; (try with_reducible rfl))); (try simp only [List.getElem_toArray, List.getElem_cons_succ, List.getElem_cons_zero, Act.put, List.setIfInBounds_toArray, List.set_cons_zero, List.set_cons_succ]); refine anyH_listed (listed' := #[true, true, true, true, true, true, true, true, true, true, true, true, true, true, true, false, false, false, true, false]) (by decide +kernel) ?_; exact k1112 bA bB bD r1 r2 _ hn1 hn2 hHeld)
      refine AllReadyH.cons (o := _) rfl (fun K hK => ?_) AllReadyH.nil
      ((try simp only [List.getElem_toArray, List.getElem_cons_succ, List.getElem_cons_zero]); go_simp; go_at_call 28; refine (HN.out _ _ (by omega) (by omega) hHeld.dice).mono ?_; rintro e wcx ⟨r3, rfl, hr3, kk, hdd, hRR⟩; have hHeld := hHeld.roll hdd hRR; clear hdd hRR; have hq3 : IntKind.i64.wrap (1 + (r3 : Int)) = 1 + (r3 : Int) := IntWalk.i64_in _ (by omega); refine hK.out _ _ hHeld (fun hHeld => ?_); clear hK K; (try simp only [List.setIfInBounds_toArray, List.set_cons_zero, List.set_cons_succ]); (refine wpAnyH_take (i := 16) (oi := _) (v := ?_) rfl (by kernel_rfl) (by kernel_rfl) (by decide +kernel) (fun _ _ _ h => h) (Or.inl ⟨by rfl, ?_⟩) (by assumption) ?_; rotate_left; (intro wS hSw; skip; (try simp only [List.getElem_toArray, List.getElem_cons_succ, List.getElem_cons_zero]); go_simp; (try with_reducible rfl))); (try simp only [List.getElem_toArray, List.getElem_cons_succ, List.getElem_cons_zero, Act.put, List.setIfInBounds_toArray, List.set_cons_zero, List.set_cons_succ]); refine anyH_listed (listed' := #[true, true, true, true, true, true, false, true, true, false, false, true, true, true, true, true, true, false, true, false]) (by decide +kernel) ?_; exact k1013 bA bD r1 r2 r3 _ hn1 hn2 hr3 hHeld)
    have k1102 : ∀ (bA bB r1 r2 : Nat) (wx : World), r1 < 3 → r2 < 2 → RG w g c A L d s b m (some bA) (some bB) none wx → wpAnyH Tryz.prog .any ops' Q' (RG w g c A L d s b m (some bA) (some bB) none) 5 #[true, true, true, true, true, true, true, true, true, true, true, true, true, true, true, false, false, false, false, false] (actC g w.heap.size d s b m (n : Int) code undef (.slice (some ⟨bA, 0, none⟩) 3 3) (.int .i64 (r1 : Int)) (.pointer (some ⟨bA, r1, none⟩)) (.string (ba (courseS r1))) (.slice (some ⟨bB, 0, none⟩) 2 2) (.int .i64 (r2 : Int)) (.pointer (some ⟨bB, r2, none⟩)) (.string (ba (partS r2))) undef undef undef) wx := by
      intro bA bB r1 r2 wx hn1 hn2 hHeld
      subst hops hQ
      clear H0
      unfold actC
      have hz1 : (0 : Int) ≤ (r1 : Int) := (by omega)
      have hl1 : (r1 : Int) < 3 := (by omega)
      have hz2 : (0 : Int) ≤ (r2 : Int) := (by omega)
      have hl2 : (r2 : Int) < 2 := (by omega)
      refine wpAnyH_ready (rs := [15, 18]) (by kernel_rfl) (by simp) ?_
      refine AllReadyH.cons (o := _) rfl (fun K hK => ?_) ?_
      · ((try simp only [List.getElem_toArray, List.getElem_cons_succ, List.getElem_cons_zero]); go_simp; go_at_call 28; refine (HN.out _ _ (by omega) (by omega) hHeld.dice).mono ?_; rintro e wcx ⟨r3, rfl, hr3, kk, hdd, hRR⟩; have hHeld := hHeld.roll hdd hRR; clear hdd hRR; have hq3 : IntKind.i64.wrap (1 + (r3 : Int)) = 1 + (r3 : Int) := IntWalk.i64_in _ (by omega); refine hK.out _ _ hHeld (fun hHeld => ?_); clear hK K; (try simp only [List.setIfInBounds_toArray, List.set_cons_zero, List.set_cons_succ]); (refine wpAnyH_take (i := 16) (oi := _) (v := ?_) rfl (by kernel_rfl) (by kernel_rfl) (by decide +kernel) (fun _ _ _ h => h) (Or.inl ⟨by rfl, ?_⟩) (by assumption) ?_; rotate_left; (intro wS hSw; skip; (try simp only [List.getElem_toArray, List.getElem_cons_succ, List.getElem_cons_zero]); go_simp; (try with_reducible rfl))); (try simp only [List.getElem_toArray, List.getElem_cons_succ, List.getElem_cons_zero, Act.put, List.setIfInBounds_toArray, List.set_cons_zero, List.set_cons_succ]); (refine wpAnyH_take (i := 17) (oi := _) (v := ?_) rfl (by kernel_rfl) (by kernel_rfl) (by decide +kernel) (fun _ _ _ h => h) (Or.inl ⟨by rfl, ?_⟩) (by assumption) ?_; rotate_left; (intro wS hSw; skip; (try simp only [List.getElem_toArray, List.getElem_cons_succ, List.getElem_cons_zero]); go_simp; (try with_reducible rfl))); (try simp only [List.getElem_toArray, List.getElem_cons_succ, List.getElem_cons_zero, Act.put, List.setIfInBounds_toArray, List.set_cons_zero, List.set_cons_succ]); refine anyH_listed (listed' := #[true, true, true, true, true, true, true, true, true, true, true, true, true, true, true, true, true, true, false, false]) (by decide +kernel) ?_; exact k1103 bA bB r1 r2 r3 _ hn1 hn2 hr3 hHeld)
      refine AllReadyH.cons (o := _) rfl (fun K hK => ?_) AllReadyH.nil
      ((try simp only [List.getElem_toArray, List.getElem_cons_succ, List.getElem_cons_zero]); go_simp; obtain ⟨bD, hnm, hNew⟩ := hHeld.newD'; rw [← hnm]; generalize hwn : World.alloc _ _ = wn at hNew ⊢; refine hK.out _ _ hNew.dropD (fun _ => ?_); clear hK K hHeld hwn hnm; have hHeld := hNew; clear hNew; refine anyH_more (S' := RG w g c A L d s b m (some bA) (some bB) (some bD)) (fun _ hx => hx.dropD) _ _ _ _ ?_; (try simp only [List.setIfInBounds_toArray, List.set_cons_zero, List.set_cons_succ]); refine anyH_listed (listed' := #[true, true, true, true, true, true, true, true, true, true, true, true, true, true, true, false, false, false, true, false]) (by decide +kernel) ?_; exact k1112 bA bB bD r1 r2 _ hn1 hn2 hHeld)
    have k1111 : ∀ (bA bB bD r1 : Nat) (wx : World), r1 < 3 → RG w g c A L d s b m (some bA) (some bB) (some bD) wx → wpAnyH Tryz.prog .any ops' Q' (RG w g c A L d s b m (some bA) (some bB) (some bD)) 7 #[true, true, true, true, true, true, true, true, false, false, false, true, true, true, true, false, false, false, true, false] (actC g w.heap.size d s b m (n : Int) code (.pointer (some ⟨bD, 0, none⟩)) (.slice (some ⟨bA, 0, none⟩) 3 3) (.int .i64 (r1 : Int)) (.pointer (some ⟨bA, r1, none⟩)) (.string (ba (courseS r1))) (.slice (some ⟨bB, 0, none⟩) 2 2) undef undef undef undef undef undef) wx := by
      intro bA bB bD r1 wx hn1 hHeld
      subst hops hQ
      clear H0
      unfold actC
      have hz1 : (0 : Int) ≤ (r1 : Int) := (by omega)
      have hl1 : (r1 : Int) < 3 := (by omega)
      refine wpAnyH_ready (rs := [8]) (by kernel_rfl) (by simp) ?_
      refine AllReadyH.cons (o := _) rfl (fun K hK => ?_) AllReadyH.nil
      ((try simp only [List.getElem_toArray, List.getElem_cons_succ, List.getElem_cons_zero]); go_simp; go_at_call 28; refine (HN.out _ 2 (by omega) (by omega) hHeld.dice).mono ?_; rintro e wcx ⟨r2, rfl, hr2, kk, hdd, hRR⟩; have hHeld := hHeld.roll hdd hRR; clear hdd hRR; have hn2 : r2 < 2 := (by omega); have hz2 : (0 : Int) ≤ (r2 : Int) := (by omega); have hl2 : (r2 : Int) < 2 := (by omega); refine hK.out _ _ hHeld (fun hHeld => ?_); clear hK K; (try simp only [List.setIfInBounds_toArray, List.set_cons_zero, List.set_cons_succ]); (refine wpAnyH_take (i := 9) (oi := _) (v := ?_) rfl (by kernel_rfl) (by kernel_rfl) (by decide +kernel) (fun _ _ _ h => h) (Or.inl ⟨by rfl, ?_⟩) (by assumption) ?_; rotate_left; (intro wS hSw; skip; (try simp only [List.getElem_toArray, List.getElem_cons_succ, List.getElem_cons_zero]); go_simp; (try with_reducible rfl))); (try simp only [List.getElem_toArray, List.getElem_cons_succ, List.getElem_cons_zero, Act.put, List.setIfInBounds_toArray, List.set_cons_zero, List.set_cons_succ]); (refine wpAnyH_take (i := 10) (oi := _) (v := ?_) rfl (by kernel_rfl) (by kernel_rfl) (by decide +kernel) (fun _ _ _ h => h) (Or.inl ⟨by rfl, ?_⟩) (by assumption) ?_; rotate_left; (intro wS hSw; have a10 := (hSw.p _ rfl).2.2 r2 hn2; (try simp only [List.getElem_toArray, List.getElem_cons_succ, List.getElem_cons_zero]); go_simp; (try with_reducible rfl))); (try simp only [List.getElem_toArray, List.getElem_cons_succ, List.getElem_cons_zero, Act.put, List.setIfInBounds_toArray, List.set_cons_zero, List.set_cons_succ]); refine anyH_listed (listed' := #[true, true, true, true, true, true, true, true, true, true, true, true, true, true, true, false, false, false, true, false]) (by decide +kernel) ?_; exact k1112 bA bB bD r1 r2 _ hn1 hn2 hHeld)
    have k0003 : ∀ (r1 r2 r3 : Nat) (wx : World), r1 < 3 → r2 < 2 → (r3 : Int) < min 2 s → RG w g c A L d s b m none none none wx → wpAnyH Tryz.prog .any ops' Q' (RG w g c A L d s b m none none none) 9 #[true, false, true, true, false, false, false, true, true, false, false, true, true, true, true, true, true, false, false, false] (actC g w.heap.size d s b m (n : Int) code undef undef (.int .i64 (r1 : Int)) undef undef undef (.int .i64 (r2 : Int)) undef undef (.int .i64 (r3 : Int)) (.int .i64 (1 + (r3 : Int))) undef) wx := by
      intro r1 r2 r3 wx hn1 hn2 hr3 hHeld
      subst hops hQ
      clear H0
      unfold actC
      have hz1 : (0 : Int) ≤ (r1 : Int) := (by omega)
      have hl1 : (r1 : Int) < 3 := (by omega)
      have hz2 : (0 : Int) ≤ (r2 : Int) := (by omega)
      have hl2 : (r2 : Int) < 2 := (by omega)
      have hq3 : IntKind.i64.wrap (1 + (r3 : Int)) = 1 + (r3 : Int) := IntWalk.i64_in _ (by omega)
      refine wpAnyH_ready (rs := [1, 6, 18]) (by kernel_rfl) (by simp) ?_
      refine AllReadyH.cons (o := _) rfl (fun K hK => ?_) ?_
      · ((try simp only [List.getElem_toArray, List.getElem_cons_succ, List.getElem_cons_zero]); go_simp; obtain ⟨bA, hnm, hNew⟩ := hHeld.newA'; rw [← hnm]; generalize hwn : World.alloc _ _ = wn at hNew ⊢; refine hK.out _ _ hNew.dropA (fun _ => ?_); clear hK K hHeld hwn hnm; have hHeld := hNew; clear hNew; refine anyH_more (S' := RG w g c A L d s b m (some bA) none none) (fun _ hx => hx.dropA) _ _ _ _ ?_; (try simp only [List.setIfInBounds_toArray, List.set_cons_zero, List.set_cons_succ]); (refine wpAnyH_take (i := 4) (oi := _) (v := ?_) rfl (by kernel_rfl) (by kernel_rfl) (by decide +kernel) (fun _ _ _ h => h) (Or.inl ⟨by rfl, ?_⟩) (by assumption) ?_; rotate_left; (intro wS hSw; skip; (try simp only [List.getElem_toArray, List.getElem_cons_succ, List.getElem_cons_zero]); go_simp; (try with_reducible rfl))); (try simp only [List.getElem_toArray, List.getElem_cons_succ, List.getElem_cons_zero, Act.put, List.setIfInBounds_toArray, List.set_cons_zero, List.set_cons_succ]); (refine wpAnyH_take (i := 5) (oi := _) (v := ?_) rfl (by kernel_rfl) (by kernel_rfl) (by decide +kernel) (fun _ _ _ h => h) (Or.inl ⟨by rfl, ?_⟩) (by assumption) ?_; rotate_left; (intro wS hSw; have a5 := (hSw.a _ rfl).2.2 r1 hn1; (try simp only [List.getElem_toArray, List.getElem_cons_succ, List.getElem_cons_zero]); go_simp; (try with_reducible rfl))); (try simp only [List.getElem_toArray, List.getElem_cons_succ, List.getElem_cons_zero, Act.put, List.setIfInBounds_toArray, List.set_cons_zero, List.set_cons_succ]); refine anyH_listed (listed' := #[true, true, true, true, true, true, false, true, true, false, false, true, true, true, true, true, true, false, false, false]) (by decide +kernel) ?_; exact k1003 bA r1 r2 r3 _ hn1 hn2 hr3 hHeld)
      refine AllReadyH.cons (o := _) rfl (fun K hK => ?_) ?_
      · ((try simp only [List.getElem_toArray, List.getElem_cons_succ, List.getElem_cons_zero]); go_simp; obtain ⟨bB, hnm, hNew⟩ := hHeld.newB'; rw [← hnm]; generalize hwn : World.alloc _ _ = wn at hNew ⊢; refine hK.out _ _ hNew.dropB (fun _ => ?_); clear hK K hHeld hwn hnm; have hHeld := hNew; clear hNew; refine anyH_more (S' := RG w g c A L d s b m none (some bB) none) (fun _ hx => hx.dropB) _ _ _ _ ?_; (try simp only [List.setIfInBounds_toArray, List.set_cons_zero, List.set_cons_succ]); (refine wpAnyH_take (i := 9) (oi := _) (v := ?_) rfl (by kernel_rfl) (by kernel_rfl) (by decide +kernel) (fun _ _ _ h => h) (Or.inl ⟨by rfl, ?_⟩) (by assumption) ?_; rotate_left; (intro wS hSw; skip; (try simp only [List.getElem_toArray, List.getElem_cons_succ, List.getElem_cons_zero]); go_simp; (try with_reducible rfl))); (try simp only [List.getElem_toArray, List.getElem_cons_succ, List.getElem_cons_zero, Act.put, List.setIfInBounds_toArray, List.set_cons_zero, List.set_cons_succ]); (refine wpAnyH_take (i := 10) (oi := _) (v := ?_) rfl (by kernel_rfl) (by kernel_rfl) (by decide +kernel) (fun _ _ _ h => h) (Or.inl ⟨by rfl, ?_⟩) (by assumption) ?_; rotate_left; (intro wS hSw; have a10 := (hSw.p _ rfl).2.2 r2 hn2; (try simp only [List.getElem_toArray, List.getElem_cons_succ, List.getElem_cons_zero]); go_simp; (try with_reducible rfl))); (try simp only [List.getElem_toArray, List.getElem_cons_succ, List.getElem_cons_zero, Act.put, List.setIfInBounds_toArray, List.set_cons_zero, List.set_cons_succ]); refine anyH_listed (listed' := #[true, false, true, true, false, false, true, true, true, true, true, true, true, true, true, true, true, false, false, false]) (by decide +kernel) ?_; exact k0103 bB r1 r2 r3 _ hn1 hn2 hr3 hHeld)
      refine AllReadyH.cons (o := _) rfl (fun K hK => ?_) AllReadyH.nil
      ((try simp only [List.getElem_toArray, List.getElem_cons_succ, List.getElem_cons_zero]); go_simp; obtain ⟨bD, hnm, hNew⟩ := hHeld.newD'; rw [← hnm]; generalize hwn : World.alloc _ _ = wn at hNew ⊢; refine hK.out _ _ hNew.dropD (fun _ => ?_); clear hK K hHeld hwn hnm; have hHeld := hNew; clear hNew; refine anyH_more (S' := RG w g c A L d s b m none none (some bD)) (fun _ hx => hx.dropD) _ _ _ _ ?_; (try simp only [List.setIfInBounds_toArray, List.set_cons_zero, List.set_cons_succ]); refine anyH_listed (listed' := #[true, false, true, true, false, false, false, true, true, false, false, true, true, true, true, true, true, false, true, false]) (by decide +kernel) ?_; exact k0013 bD r1 r2 r3 _ hn1 hn2 hr3 hHeld)
    have k0012 : ∀ (bD r1 r2 : Nat) (wx : World), r1 < 3 → r2 < 2 → RG w g c A L d s b m none none (some bD) wx → wpAnyH Tryz.prog .any ops' Q' (RG w g c A L d s b m none none (some bD)) 10 #[true, false, true, true, false, false, false, true, true, false, false, true, true, true, true, false, false, false, true, false] (actC g w.heap.size d s b m (n : Int) code (.pointer (some ⟨bD, 0, none⟩)) undef (.int .i64 (r1 : Int)) undef undef undef (.int .i64 (r2 : Int)) undef undef undef undef undef) wx := by
      intro bD r1 r2 wx hn1 hn2 hHeld
      subst hops hQ
      clear H0
      unfold actC
      have hz1 : (0 : Int) ≤ (r1 : Int) := (by omega)
      have hl1 : (r1 : Int) < 3 := (by omega)
      have hz2 : (0 : Int) ≤ (r2 : Int) := (by omega)
      have hl2 : (r2 : Int) < 2 := (by omega)
      refine wpAnyH_ready (rs := [1, 6, 15]) (by kernel_rfl) (by simp) ?_
      refine AllReadyH.cons (o := _) rfl (fun K hK => ?_) ?_
      · ((try simp only [List.getElem_toArray, List.getElem_cons_succ, List.getElem_cons_zero]); go_simp; obtain ⟨bA, hnm, hNew⟩ := hHeld.newA'; rw [← hnm]; generalize hwn : World.alloc _ _ = wn at hNew ⊢; refine hK.out _ _ hNew.dropA (fun _ => ?_); clear hK K hHeld hwn hnm; have hHeld := hNew; clear hNew; refine anyH_more (S' := RG w g c A L d s b m (some bA) none (some bD)) (fun _ hx => hx.dropA) _ _ _ _ ?_; (try simp only [List.setIfInBounds_toArray, List.set_cons_zero, List.set_cons_succ]); (refine wpAnyH_take (i := 4) (oi := _) (v := ?_) rfl (by kernel_rfl) (by kernel_rfl) (by decide +kernel) (fun _ _ _ h => h) (Or.inl ⟨by rfl, ?_⟩) (by assumption) ?_; rotate_left; (intro wS hSw; skip; (try simp only [List.getElem_toArray, List.getElem_cons_succ, List.getElem_cons_zero]); go_simp; (try with_reducible rfl))); (try simp only [List.getElem_toArray, List.getElem_cons_succ, List.getElem_cons_zero, Act.put, List.setIfInBounds_toArray, List.set_cons_zero, List.set_cons_succ]); (refine wpAnyH_take (i := 5) (oi := _) (v := ?_) rfl (by kernel_rfl) (by kernel_rfl) (by decide +kernel) (fun _ _ _ h => h) (Or.inl ⟨by rfl, ?_⟩) (by assumption) ?_; rotate_left; (intro wS hSw; have a5 := (hSw.a _ rfl).2.2 r1 hn1; (try simp only [List.getElem_toArray, List.getElem_cons_succ, List.getElem_cons_zero]); go_simp; (try with_reducible rfl))); (try simp only [List.getElem_toArray, List.getElem_cons_succ, List.getElem_cons_zero, Act.put, List.setIfInBounds_toArray, List.set_cons_zero, List.set_cons_succ]); refine anyH_listed (listed' := #[true, true, true, true, true, true, false, true, true, false, false, true, true, true, true, false, false, false, true, false]) (by decide +kernel) ?_; exact k1012 bA bD r1 r2 _ hn1 hn2 hHeld)
      refine AllReadyH.cons (o := _) rfl (fun K hK => ?_) ?_
      · ((try simp only [List.getElem_toArray, List.getElem_cons_succ, List.getElem_cons_zero]); go_simp; obtain ⟨bB, hnm, hNew⟩ := hHeld.newB'; rw [← hnm]; generalize hwn : World.alloc _ _ = wn at hNew ⊢; refine hK.out _ _ hNew.dropB (fun _ => ?_); clear hK K hHeld hwn hnm; have hHeld := hNew; clear hNew; refine anyH_more (S' := RG w g c A L d s b m none (some bB) (some bD)) (fun _ hx => hx.dropB) _ _ _ _ ?_; (try simp only [List.setIfInBounds_toArray, List.set_cons_zero, List.set_cons_succ]); (refine wpAnyH_take (i := 9) (oi := _) (v := ?_) rfl (by kernel_rfl) (by kernel_rfl) (by decide +kernel) (fun _ _ _ h => h) (Or.inl ⟨by rfl, ?_⟩) (by assumption) ?_; rotate_left; (intro wS hSw; skip; (try simp only [List.getElem_toArray, List.getElem_cons_succ, List.getElem_cons_zero]); go_simp; (try with_reducible rfl))); (try simp only [List.getElem_toArray, List.getElem_cons_succ, List.getElem_cons_zero, Act.put, List.setIfInBounds_toArray, List.set_cons_zero, List.set_cons_succ]); (refine wpAnyH_take (i := 10) (oi := _) (v := ?_) rfl (by kernel_rfl) (by kernel_rfl) (by decide +kernel) (fun _ _ _ h => h) (Or.inl ⟨by rfl, ?_⟩) (by assumption) ?_; rotate_left; (intro wS hSw; have a10 := (hSw.p _ rfl).2.2 r2 hn2; (try simp only [List.getElem_toArray, List.getElem_cons_succ, List.getElem_cons_zero]); go_simp; (try with_reducible rfl))); (try simp only [List.getElem_toArray, List.getElem_cons_succ, List.getElem_cons_zero, Act.put, List.setIfInBounds_toArray, List.set_cons_zero, List.set_cons_succ]); refine anyH_listed (listed' := #[true, false, true, true, false, false, true, true, true, true, true, true, true, true, true, false, false, false, true, false]) (by decide +kernel) ?_; exact k0112 bB bD r1 r2 _ hn1 hn2 hHeld)
      refine AllReadyH.cons (o := _) rfl (fun K hK => ?_) AllReadyH.nil
      ((try simp only [List.getElem_toArray, List.getElem_cons_succ, List.getElem_cons_zero]); go_simp; go_at_call 28; refine (HN.out _ _ (by omega) (by omega) hHeld.dice).mono ?_; rintro e wcx ⟨r3, rfl, hr3, kk, hdd, hRR⟩; have hHeld := hHeld.roll hdd hRR; clear hdd hRR; have hq3 : IntKind.i64.wrap (1 + (r3 : Int)) = 1 + (r3 : Int) := IntWalk.i64_in _ (by omega); refine hK.out _ _ hHeld (fun hHeld => ?_); clear hK K; (try simp only [List.setIfInBounds_toArray, List.set_cons_zero, List.set_cons_succ]); (refine wpAnyH_take (i := 16) (oi := _) (v := ?_) rfl (by kernel_rfl) (by kernel_rfl) (by decide +kernel) (fun _ _ _ h => h) (Or.inl ⟨by rfl, ?_⟩) (by assumption) ?_; rotate_left; (intro wS hSw; skip; (try simp only [List.getElem_toArray, List.getElem_cons_succ, List.getElem_cons_zero]); go_simp; (try with_reducible rfl))); (try simp only [List.getElem_toArray, List.getElem_cons_succ, List.getElem_cons_zero, Act.put, List.setIfInBounds_toArray, List.set_cons_zero, List.set_cons_succ]); refine anyH_listed (listed' := #[true, false, true, true, false, false, false, true, true, false, false, true, true, true, true, true, true, false, true, false]) (by decide +kernel) ?_; exact k0013 bD r1 r2 r3 _ hn1 hn2 hr3 hHeld)
    have k0102 : ∀ (bB r1 r2 : Nat) (wx : World), r1 < 3 → r2 < 2 → RG w g c A L d s b m none (some bB) none wx → wpAnyH Tryz.prog .any ops' Q' (RG w g c A L d s b m none (some bB) none) 8 #[true, false, true, true, false, false, true, true, true, true, true, true, true, true, true, false, false, false, false, false] (actC g w.heap.size d s b m (n : Int) code undef undef (.int .i64 (r1 : Int)) undef undef (.slice (some ⟨bB, 0, none⟩) 2 2) (.int .i64 (r2 : Int)) (.pointer (some ⟨bB, r2, none⟩)) (.string (ba (partS r2))) undef undef undef) wx := by
      intro bB r1 r2 wx hn1 hn2 hHeld
      subst hops hQ
      clear H0
      unfold actC
      have hz1 : (0 : Int) ≤ (r1 : Int) := (by omega)
      have hl1 : (r1 : Int) < 3 := (by omega)
      have hz2 : (0 : Int) ≤ (r2 : Int) := (by omega)
      have hl2 : (r2 : Int) < 2 := (by omega)
      refine wpAnyH_ready (rs := [1, 15, 18]) (by kernel_rfl) (by simp) ?_
      refine AllReadyH.cons (o := _) rfl (fun K hK => ?_) ?_
      · ((try simp only [List.getElem_toArray, List.getElem_cons_succ, List.getElem_cons_zero]); go_simp; obtain ⟨bA, hnm, hNew⟩ := hHeld.newA'; rw [← hnm]; generalize hwn : World.alloc _ _ = wn at hNew ⊢; refine hK.out _ _ hNew.dropA (fun _ => ?_); clear hK K hHeld hwn hnm; have hHeld := hNew; clear hNew; refine anyH_more (S' := RG w g c A L d s b m (some bA) (some bB) none) (fun _ hx => hx.dropA) _ _ _ _ ?_; (try simp only [List.setIfInBounds_toArray, List.set_cons_zero, List.set_cons_succ]); (refine wpAnyH_take (i := 4) (oi := _) (v := ?_) rfl (by kernel_rfl) (by kernel_rfl) (by decide +kernel) (fun _ _ _ h => h) (Or.inl ⟨by rfl, ?_⟩) (by assumption) ?_; rotate_left; (intro wS hSw; skip; (try simp only [List.getElem_toArray, List.getElem_cons_succ, List.getElem_cons_zero]); go_simp; (try with_reducible rfl))); (try simp only [List.getElem_toArray, List.getElem_cons_succ, List.getElem_cons_zero, Act.put, List.setIfInBounds_toArray, List.set_cons_zero, List.set_cons_succ]); (refine wpAnyH_take (i := 5) (oi := _) (v := ?_) rfl (by kernel_rfl) (by kernel_rfl) (by decide +kernel) (fun _ _ _ h => h) (Or.inl ⟨by rfl, ?_⟩) (by assumption) ?_; rotate_left; (intro wS hSw; have a5 := (hSw.a _ rfl).2.2 r1 hn1; (try simp only [List.getElem_toArray, List.getElem_cons_succ, List.getElem_cons_zero]); go_simp; (try with_reducible rfl))); (try simp only [List.getElem_toArray, List.getElem_cons_succ, List.getElem_cons_zero, Act.put, List.setIfInBounds_toArray, List.set_cons_zero, List.set_cons_succ]); refine anyH_listed (listed' := #[true, true, true, true, true, true, true, true, true, true, true, true, true, true, true, false, false, false, false, false]) (by decide +kernel) ?_; exact k1102 bA bB r1 r2 _ hn1 hn2 hHeld)
      refine AllReadyH.cons (o := _) rfl (fun K hK => ?_) ?_
      · ((try simp only [List.getElem_toArray, List.getElem_cons_succ, List.getElem_cons_zero]); go_simp; go_at_call 28; refine (HN.out _ _ (by omega) (by omega) hHeld.dice).mono ?_; rintro e wcx ⟨r3, rfl, hr3, kk, hdd, hRR⟩; have hHeld := hHeld.roll hdd hRR; clear hdd hRR; have hq3 : IntKind.i64.wrap (1 + (r3 : Int)) = 1 + (r3 : Int) := IntWalk.i64_in _ (by omega); refine hK.out _ _ hHeld (fun hHeld => ?_); clear hK K; (try simp only [List.setIfInBounds_toArray, List.set_cons_zero, List.set_cons_succ]); (refine wpAnyH_take (i := 16) (oi := _) (v := ?_) rfl (by kernel_rfl) (by kernel_rfl) (by decide +kernel) (fun _ _ _ h => h) (Or.inl ⟨by rfl, ?_⟩) (by assumption) ?_; rotate_left; (intro wS hSw; skip; (try simp only [List.getElem_toArray, List.getElem_cons_succ, List.getElem_cons_zero]); go_simp; (try with_reducible rfl))); (try simp only [List.getElem_toArray, List.getElem_cons_succ, List.getElem_cons_zero, Act.put, List.setIfInBounds_toArray, List.set_cons_zero, List.set_cons_succ]); refine anyH_listed (listed' := #[true, false, true, true, false, false, true, true, true, true, true, true, true, true, true, true, true, false, false, false]) (by decide +kernel) ?_; exact k0103 bB r1 r2 r3 _ hn1 hn2 hr3 hHeld)
      refine AllReadyH.cons (o := _) rfl (fun K hK => ?_) AllReadyH.nil
      ((try simp only [List.getElem_toArray, List.getElem_cons_succ, List.getElem_cons_zero]); go_simp; obtain ⟨bD, hnm, hNew⟩ := hHeld.newD'; rw [← hnm]; generalize hwn : World.alloc _ _ = wn at hNew ⊢; refine hK.out _ _ hNew.dropD (fun _ => ?_); clear hK K hHeld hwn hnm; have hHeld := hNew; clear hNew; refine anyH_more (S' := RG w g c A L d s b m none (some bB) (some bD)) (fun _ hx => hx.dropD) _ _ _ _ ?_; (try simp only [List.setIfInBounds_toArray, List.set_cons_zero, List.set_cons_succ]); refine anyH_listed (listed' := #[true, false, true, true, false, false, true, true, true, true, true, true, true, true, true, false, false, false, true, false]) (by decide +kernel) ?_; exact k0112 bB bD r1 r2 _ hn1 hn2 hHeld)
    have k0111 : ∀ (bB bD r1 : Nat) (wx : World), r1 < 3 → RG w g c A L d s b m none (some bB) (some bD) wx → wpAnyH Tryz.prog .any ops' Q' (RG w g c A L d s b m none (some bB) (some bD)) 10 #[true, false, true, true, false, false, true, true, false, false, false, true, true, true, true, false, false, false, true, false] (actC g w.heap.size d s b m (n : Int) code (.pointer (some ⟨bD, 0, none⟩)) undef (.int .i64 (r1 : Int)) undef undef (.slice (some ⟨bB, 0, none⟩) 2 2) undef undef undef undef undef undef) wx := by
      intro bB bD r1 wx hn1 hHeld
      subst hops hQ
      clear H0
      unfold actC
      have hz1 : (0 : Int) ≤ (r1 : Int) := (by omega)
      have hl1 : (r1 : Int) < 3 := (by omega)
      refine wpAnyH_ready (rs := [1, 8]) (by kernel_rfl) (by simp) ?_
      refine AllReadyH.cons (o := _) rfl (fun K hK => ?_) ?_
      · ((try simp only [List.getElem_toArray, List.getElem_cons_succ, List.getElem_cons_zero]); go_simp; obtain ⟨bA, hnm, hNew⟩ := hHeld.newA'; rw [← hnm]; generalize hwn : World.alloc _ _ = wn at hNew ⊢; refine hK.out _ _ hNew.dropA (fun _ => ?_); clear hK K hHeld hwn hnm; have hHeld := hNew; clear hNew; refine anyH_more (S' := RG w g c A L d s b m (some bA) (some bB) (some bD)) (fun _ hx => hx.dropA) _ _ _ _ ?_; (try simp only [List.setIfInBounds_toArray, List.set_cons_zero, List.set_cons_succ]); (refine wpAnyH_take (i := 4) (oi := _) (v := ?_) rfl (by kernel_rfl) (by kernel_rfl) (by decide +kernel) (fun _ _ _ h => h) (Or.inl ⟨by rfl, ?_⟩) (by assumption) ?_; rotate_left; (intro wS hSw; skip; (try simp only [List.getElem_toArray, List.getElem_cons_succ, List.getElem_cons_zero]); go_simp; (try with_reducible rfl))); (try simp only [List.getElem_toArray, List.getElem_cons_succ, List.getElem_cons_zero, Act.put, List.setIfInBounds_toArray, List.set_cons_zero, List.set_cons_succ]); (refine wpAnyH_take (i := 5) (oi := _) (v := ?_) rfl (by kernel_rfl) (by kernel_rfl) (by decide +kernel) (fun _ _ _ h => h) (Or.inl ⟨by rfl, ?_⟩) (by assumption) ?_; rotate_left; (intro wS hSw; have a5 := (hSw.a _ rfl).2.2 r1 hn1; (try simp only [List.getElem_toArray, List.getElem_cons_succ, List.getElem_cons_zero]); go_simp; (try with_reducible rfl))); (try simp only [List.getElem_toArray, List.getElem_cons_succ, List.getElem_cons_zero, Act.put, List.setIfInBounds_toArray, List.set_cons_zero, List.set_cons_succ]); refine anyH_listed (listed' := #[true, true, true, true, true, true, true, true, false, false, false, true, true, true, true, false, false, false, true, false]) (by decide +kernel) ?_; exact k1111 bA bB bD r1 _ hn1 hHeld)
      refine AllReadyH.cons (o := _) rfl (fun K hK => ?_) AllReadyH.nil
      ((try simp only [List.getElem_toArray, List.getElem_cons_succ, List.getElem_cons_zero]); go_simp; go_at_call 28; refine (HN.out _ 2 (by omega) (by omega) hHeld.dice).mono ?_; rintro e wcx ⟨r2, rfl, hr2, kk, hdd, hRR⟩; have hHeld := hHeld.roll hdd hRR; clear hdd hRR; have hn2 : r2 < 2 := (by omega); have hz2 : (0 : Int) ≤ (r2 : Int) := (by omega); have hl2 : (r2 : Int) < 2 := (by omega); refine hK.out _ _ hHeld (fun hHeld => ?_); clear hK K; (try simp only [List.setIfInBounds_toArray, List.set_cons_zero, List.set_cons_succ]); (refine wpAnyH_take (i := 9) (oi := _) (v := ?_) rfl (by kernel_rfl) (by kernel_rfl) (by decide +kernel) (fun _ _ _ h => h) (Or.inl ⟨by rfl, ?_⟩) (by assumption) ?_; rotate_left; (intro wS hSw; skip; (try simp only [List.getElem_toArray, List.getElem_cons_succ, List.getElem_cons_zero]); go_simp; (try with_reducible rfl))); (try simp only [List.getElem_toArray, List.getElem_cons_succ, List.getElem_cons_zero, Act.put, List.setIfInBounds_toArray, List.set_cons_zero, List.set_cons_succ]); (refine wpAnyH_take (i := 10) (oi := _) (v := ?_) rfl (by kernel_rfl) (by kernel_rfl) (by decide +kernel) (fun _ _ _ h => h) (Or.inl ⟨by rfl, ?_⟩) (by assumption) ?_; rotate_left; (intro wS hSw; have a10 := (hSw.p _ rfl).2.2 r2 hn2; (try simp only [List.getElem_toArray, List.getElem_cons_succ, List.getElem_cons_zero]); go_simp; (try with_reducible rfl))); (try simp only [List.getElem_toArray, List.getElem_cons_succ, List.getElem_cons_zero, Act.put, List.setIfInBounds_toArray, List.set_cons_zero, List.set_cons_succ]); refine anyH_listed (listed' := #[true, false, true, true, false, false, true, true, true, true, true, true, true, true, true, false, false, false, true, false]) (by decide +kernel) ?_; exact k0112 bB bD r1 r2 _ hn1 hn2 hHeld)
    have k1002 : ∀ (bA r1 r2 : Nat) (wx : World), r1 < 3 → r2 < 2 → RG w g c A L d s b m (some bA) none none wx → wpAnyH Tryz.prog .any ops' Q' (RG w g c A L d s b m (some bA) none none) 8 #[true, true, true, true, true, true, false, true, true, false, false, true, true, true, true, false, false, false, false, false] (actC g w.heap.size d s b m (n : Int) code undef (.slice (some ⟨bA, 0, none⟩) 3 3) (.int .i64 (r1 : Int)) (.pointer (some ⟨bA, r1, none⟩)) (.string (ba (courseS r1))) undef (.int .i64 (r2 : Int)) undef undef undef undef undef) wx := by
      intro bA r1 r2 wx hn1 hn2 hHeld
      subst hops hQ
      clear H0
      unfold actC
      have hz1 : (0 : Int) ≤ (r1 : Int) := (by omega)
      have hl1 : (r1 : Int) < 3 := (by omega)
      have hz2 : (0 : Int) ≤ (r2 : Int) := (by omega)
      have hl2 : (r2 : Int) < 2 := (by omega)
      refine wpAnyH_ready (rs := [6, 15, 18]) (by kernel_rfl) (by simp) ?_
      refine AllReadyH.cons (o := _) rfl (fun K hK => ?_) ?_
      · ((try simp only [List.getElem_toArray, List.getElem_cons_succ, List.getElem_cons_zero]); go_simp; obtain ⟨bB, hnm, hNew⟩ := hHeld.newB'; rw [← hnm]; generalize hwn : World.alloc _ _ = wn at hNew ⊢; refine hK.out _ _ hNew.dropB (fun _ => ?_); clear hK K hHeld hwn hnm; have hHeld := hNew; clear hNew; refine anyH_more (S' := RG w g c A L d s b m (some bA) (some bB) none) (fun _ hx => hx.dropB) _ _ _ _ ?_; (try simp only [List.setIfInBounds_toArray, List.set_cons_zero, List.set_cons_succ]); (refine wpAnyH_take (i := 9) (oi := _) (v := ?_) rfl (by kernel_rfl) (by kernel_rfl) (by decide +kernel) (fun _ _ _ h => h) (Or.inl ⟨by rfl, ?_⟩) (by assumption) ?_; rotate_left; (intro wS hSw; skip; (try simp only [List.getElem_toArray, List.getElem_cons_succ, List.getElem_cons_zero]); go_simp; (try with_reducible rfl))); (try simp only [List.getElem_toArray, List.getElem_cons_succ, List.getElem_cons_zero, Act.put, List.setIfInBounds_toArray, List.set_cons_zero, List.set_cons_succ]); (refine wpAnyH_take (i := 10) (oi := _) (v := ?_) rfl (by kernel_rfl) (by kernel_rfl) (by decide +kernel) (fun _ _ _ h => h) (Or.inl ⟨by rfl, ?_⟩) (by assumption) ?_; rotate_left; (intro wS hSw; have a10 := (hSw.p _ rfl).2.2 r2 hn2; (try simp only [List.getElem_toArray, List.getElem_cons_succ, List.getElem_cons_zero]); go_simp; (try with_reducible rfl))); (try simp only [List.getElem_toArray, List.getElem_cons_succ, List.getElem_cons_zero, Act.put, List.setIfInBounds_toArray, List.set_cons_zero, List.set_cons_succ]); refine anyH_listed (listed' := #[true, true, true, true, true, true, true, true, true, true, true, true, true, true, true, false, false, false, false, false]) (by decide +kernel) ?_; exact k1102 bA bB r1 r2 _ hn1 hn2 hHeld)
      refine AllReadyH.cons (o := _) rfl (fun K hK => ?_) ?_
      · ((try simp only [List.getElem_toArray, List.getElem_cons_succ, List.getElem_cons_zero]); go_simp; go_at_call 28; refine (HN.out _ _ (by omega) (by omega) hHeld.dice).mono ?_; rintro e wcx ⟨r3, rfl, hr3, kk, hdd, hRR⟩; have hHeld := hHeld.roll hdd hRR; clear hdd hRR; have hq3 : IntKind.i64.wrap (1 + (r3 : Int)) = 1 + (r3 : Int) := IntWalk.i64_in _ (by omega); refine hK.out _ _ hHeld (fun hHeld => ?_); clear hK K; (try simp only [List.setIfInBounds_toArray, List.set_cons_zero, List.set_cons_succ]); (refine wpAnyH_take (i := 16) (oi := _) (v := ?_) rfl (by kernel_rfl) (by kernel_rfl) (by decide +kernel) (fun _ _ _ h => h) (Or.inl ⟨by rfl, ?_⟩) (by assumption) ?_; rotate_left; (intro wS hSw; skip; (try simp only [List.getElem_toArray, List.getElem_cons_succ, List.getElem_cons_zero]); go_simp; (try with_reducible rfl))); (try simp only [List.getElem_toArray, List.getElem_cons_succ, List.getElem_cons_zero, Act.put, List.setIfInBounds_toArray, List.set_cons_zero, List.set_cons_succ]); refine anyH_listed (listed' := #[true, true, true, true, true, true, false, true, true, false, false, true, true, true, true, true, true, false, false, false]) (by decide +kernel) ?_; exact k1003 bA r1 r2 r3 _ hn1 hn2 hr3 hHeld)
      refine AllReadyH.cons (o := _) rfl (fun K hK => ?_) AllReadyH.nil
      ((try simp only [List.getElem_toArray, List.getElem_cons_succ, List.getElem_cons_zero]); go_simp; obtain ⟨bD, hnm, hNew⟩ := hHeld.newD'; rw [← hnm]; generalize hwn : World.alloc _ _ = wn at hNew ⊢; refine hK.out _ _ hNew.dropD (fun _ => ?_); clear hK K hHeld hwn hnm; have hHeld := hNew; clear hNew; refine anyH_more (S' := RG w g c A L d s b m (some bA) none (some bD)) (fun _ hx => hx.dropD) _ _ _ _ ?_; (try simp only [List.setIfInBounds_toArray, List.set_cons_zero, List.set_cons_succ]); refine anyH_listed (listed' := #[true, true, true, true, true, true, false, true, true, false, false, true, true, true, true, false, false, false, true, false]) (by decide +kernel) ?_; exact k1012 bA bD r1 r2 _ hn1 hn2 hHeld)
    have k1011 : ∀ (bA bD r1 : Nat) (wx : World), r1 < 3 → RG w g c A L d s b m (some bA) none (some bD) wx → wpAnyH Tryz.prog .any ops' Q' (RG w g c A L d s b m (some bA) none (some bD)) 8 #[true, true, true, true, true, true, false, true, false, false, false, true, true, true, true, false, false, false, true, false] (actC g w.heap.size d s b m (n : Int) code (.pointer (some ⟨bD, 0, none⟩)) (.slice (some ⟨bA, 0, none⟩) 3 3) (.int .i64 (r1 : Int)) (.pointer (some ⟨bA, r1, none⟩)) (.string (ba (courseS r1))) undef undef undef undef undef undef undef) wx := by
      intro bA bD r1 wx hn1 hHeld
      subst hops hQ
      clear H0
      unfold actC
      have hz1 : (0 : Int) ≤ (r1 : Int) := (by omega)
      have hl1 : (r1 : Int) < 3 := (by omega)
      refine wpAnyH_ready (rs := [6, 8]) (by kernel_rfl) (by simp) ?_
      refine AllReadyH.cons (o := _) rfl (fun K hK => ?_) ?_
      · ((try simp only [List.getElem_toArray, List.getElem_cons_succ, List.getElem_cons_zero]); go_simp; obtain ⟨bB, hnm, hNew⟩ := hHeld.newB'; rw [← hnm]; generalize hwn : World.alloc _ _ = wn at hNew ⊢; refine hK.out _ _ hNew.dropB (fun _ => ?_); clear hK K hHeld hwn hnm; have hHeld := hNew; clear hNew; refine anyH_more (S' := RG w g c A L d s b m (some bA) (some bB) (some bD)) (fun _ hx => hx.dropB) _ _ _ _ ?_; (try simp only [List.setIfInBounds_toArray, List.set_cons_zero, List.set_cons_succ]); refine anyH_listed (listed' := #[true, true, true, true, true, true, true, true, false, false, false, true, true, true, true, false, false, false, true, false]) (by decide +kernel) ?_; exact k1111 bA bB bD r1 _ hn1 hHeld)
      refine AllReadyH.cons (o := _) rfl (fun K hK => ?_) AllReadyH.nil
      ((try simp only [List.getElem_toArray, List.getElem_cons_succ, List.getElem_cons_zero]); go_simp; go_at_call 28; refine (HN.out _ 2 (by omega) (by omega) hHeld.dice).mono ?_; rintro e wcx ⟨r2, rfl, hr2, kk, hdd, hRR⟩; have hHeld := hHeld.roll hdd hRR; clear hdd hRR; have hn2 : r2 < 2 := (by omega); have hz2 : (0 : Int) ≤ (r2 : Int) := (by omega); have hl2 : (r2 : Int) < 2 := (by omega); refine hK.out _ _ hHeld (fun hHeld => ?_); clear hK K; (try simp only [List.setIfInBounds_toArray, List.set_cons_zero, List.set_cons_succ]); refine anyH_listed (listed' := #[true, true, true, true, true, true, false, true, true, false, false, true, true, true, true, false, false, false, true, false]) (by decide +kernel) ?_; exact k1012 bA bD r1 r2 _ hn1 hn2 hHeld)
    have k1101 : ∀ (bA bB r1 : Nat) (wx : World), r1 < 3 → RG w g c A L d s b m (some bA) (some bB) none wx → wpAnyH Tryz.prog .any ops' Q' (RG w g c A L d s b m (some bA) (some bB) none) 8 #[true, true, true, true, true, true, true, true, false, false, false, true, true, true, true, false, false, false, false, false] (actC g w.heap.size d s b m (n : Int) code undef (.slice (some ⟨bA, 0, none⟩) 3 3) (.int .i64 (r1 : Int)) (.pointer (some ⟨bA, r1, none⟩)) (.string (ba (courseS r1))) (.slice (some ⟨bB, 0, none⟩) 2 2) undef undef undef undef undef undef) wx := by
      intro bA bB r1 wx hn1 hHeld
      subst hops hQ
      clear H0
      unfold actC
      have hz1 : (0 : Int) ≤ (r1 : Int) := (by omega)
      have hl1 : (r1 : Int) < 3 := (by omega)
      refine wpAnyH_ready (rs := [8, 18]) (by kernel_rfl) (by simp) ?_
      refine AllReadyH.cons (o := _) rfl (fun K hK => ?_) ?_
      · ((try simp only [List.getElem_toArray, List.getElem_cons_succ, List.getElem_cons_zero]); go_simp; go_at_call 28; refine (HN.out _ 2 (by omega) (by omega) hHeld.dice).mono ?_; rintro e wcx ⟨r2, rfl, hr2, kk, hdd, hRR⟩; have hHeld := hHeld.roll hdd hRR; clear hdd hRR; have hn2 : r2 < 2 := (by omega); have hz2 : (0 : Int) ≤ (r2 : Int) := (by omega); have hl2 : (r2 : Int) < 2 := (by omega); refine hK.out _ _ hHeld (fun hHeld => ?_); clear hK K; (try simp only [List.setIfInBounds_toArray, List.set_cons_zero, List.set_cons_succ]); (refine wpAnyH_take (i := 9) (oi := _) (v := ?_) rfl (by kernel_rfl) (by kernel_rfl) (by decide +kernel) (fun _ _ _ h => h) (Or.inl ⟨by rfl, ?_⟩) (by assumption) ?_; rotate_left; (intro wS hSw; skip; (try simp only [List.getElem_toArray, List.getElem_cons_succ, List.getElem_cons_zero]); go_simp; (try with_reducible rfl))); (try simp only [List.getElem_toArray, List.getElem_cons_succ, List.getElem_cons_zero, Act.put, List.setIfInBounds_toArray, List.set_cons_zero, List.set_cons_succ]); (refine wpAnyH_take (i := 10) (oi := _) (v := ?_) rfl (by kernel_rfl) (by kernel_rfl) (by decide +kernel) (fun _ _ _ h => h) (Or.inl ⟨by rfl, ?_⟩) (by assumption) ?_; rotate_left; (intro wS hSw; have a10 := (hSw.p _ rfl).2.2 r2 hn2; (try simp only [List.getElem_toArray, List.getElem_cons_succ, List.getElem_cons_zero]); go_simp; (try with_reducible rfl))); (try simp only [List.getElem_toArray, List.getElem_cons_succ, List.getElem_cons_zero, Act.put, List.setIfInBounds_toArray, List.set_cons_zero, List.set_cons_succ]); refine anyH_listed (listed' := #[true, true, true, true, true, true, true, true, true, true, true, true, true, true, true, false, false, false, false, false]) (by decide +kernel) ?_; exact k1102 bA bB r1 r2 _ hn1 hn2 hHeld)
      refine AllReadyH.cons (o := _) rfl (fun K hK => ?_) AllReadyH.nil
      ((try simp only [List.getElem_toArray, List.getElem_cons_succ, List.getElem_cons_zero]); go_simp; obtain ⟨bD, hnm, hNew⟩ := hHeld.newD'; rw [← hnm]; generalize hwn : World.alloc _ _ = wn at hNew ⊢; refine hK.out _ _ hNew.dropD (fun _ => ?_); clear hK K hHeld hwn hnm; have hHeld := hNew; clear hNew; refine anyH_more (S' := RG w g c A L d s b m (some bA) (some bB) (some bD)) (fun _ hx => hx.dropD) _ _ _ _ ?_; (try simp only [List.setIfInBounds_toArray, List.set_cons_zero, List.set_cons_succ]); refine anyH_listed (listed' := #[true, true, true, true, true, true, true, true, false, false, false, true, true, true, true, false, false, false, true, false]) (by decide +kernel) ?_; exact k1111 bA bB bD r1 _ hn1 hHeld)
    have k1110 : ∀ (bA bB bD : Nat) (wx : World), RG w g c A L d s b m (some bA) (some bB) (some bD) wx → wpAnyH Tryz.prog .any ops' Q' (RG w g c A L d s b m (some bA) (some bB) (some bD)) 10 #[true, true, true, false, false, false, true, true, false, false, false, true, true, true, true, false, false, false, true, false] (actC g w.heap.size d s b m (n : Int) code (.pointer (some ⟨bD, 0, none⟩)) (.slice (some ⟨bA, 0, none⟩) 3 3) undef undef undef (.slice (some ⟨bB, 0, none⟩) 2 2) undef undef undef undef undef undef) wx := by
      intro bA bB bD wx hHeld
      subst hops hQ
      clear H0
      unfold actC
      refine wpAnyH_ready (rs := [3]) (by kernel_rfl) (by simp) ?_
      refine AllReadyH.cons (o := _) rfl (fun K hK => ?_) AllReadyH.nil
      ((try simp only [List.getElem_toArray, List.getElem_cons_succ, List.getElem_cons_zero]); go_simp; go_at_call 28; refine (HN.out _ 3 (by omega) (by omega) hHeld.dice).mono ?_; rintro e wcx ⟨r1, rfl, hr1, kk, hdd, hRR⟩; have hHeld := hHeld.roll hdd hRR; clear hdd hRR; have hn1 : r1 < 3 := (by omega); have hz1 : (0 : Int) ≤ (r1 : Int) := (by omega); have hl1 : (r1 : Int) < 3 := (by omega); refine hK.out _ _ hHeld (fun hHeld => ?_); clear hK K; (try simp only [List.setIfInBounds_toArray, List.set_cons_zero, List.set_cons_succ]); (refine wpAnyH_take (i := 4) (oi := _) (v := ?_) rfl (by kernel_rfl) (by kernel_rfl) (by decide +kernel) (fun _ _ _ h => h) (Or.inl ⟨by rfl, ?_⟩) (by assumption) ?_; rotate_left; (intro wS hSw; skip; (try simp only [List.getElem_toArray, List.getElem_cons_succ, List.getElem_cons_zero]); go_simp; (try with_reducible rfl))); (try simp only [List.getElem_toArray, List.getElem_cons_succ, List.getElem_cons_zero, Act.put, List.setIfInBounds_toArray, List.set_cons_zero, List.set_cons_succ]); (refine wpAnyH_take (i := 5) (oi := _) (v := ?_) rfl (by kernel_rfl) (by kernel_rfl) (by decide +kernel) (fun _ _ _ h => h) (Or.inl ⟨by rfl, ?_⟩) (by assumption) ?_; rotate_left; (intro wS hSw; have a5 := (hSw.a _ rfl).2.2 r1 hn1; (try simp only [List.getElem_toArray, List.getElem_cons_succ, List.getElem_cons_zero]); go_simp; (try with_reducible rfl))); (try simp only [List.getElem_toArray, List.getElem_cons_succ, List.getElem_cons_zero, Act.put, List.setIfInBounds_toArray, List.set_cons_zero, List.set_cons_succ]); refine anyH_listed (listed' := #[true, true, true, true, true, true, true, true, false, false, false, true, true, true, true, false, false, false, true, false]) (by decide +kernel) ?_; exact k1111 bA bB bD r1 _ hn1 hHeld)
    have k0002 : ∀ (r1 r2 : Nat) (wx : World), r1 < 3 → r2 < 2 → RG w g c A L d s b m none none none wx → wpAnyH Tryz.prog .any ops' Q' (RG w g c A L d s b m none none none) 11 #[true, false, true, true, false, false, false, true, true, false, false, true, true, true, true, false, false, false, false, false] (actC g w.heap.size d s b m (n : Int) code undef undef (.int .i64 (r1 : Int)) undef undef undef (.int .i64 (r2 : Int)) undef undef undef undef undef) wx := by
      intro r1 r2 wx hn1 hn2 hHeld
      subst hops hQ
      clear H0
      unfold actC
      have hz1 : (0 : Int) ≤ (r1 : Int) := (by omega)
      have hl1 : (r1 : Int) < 3 := (by omega)
      have hz2 : (0 : Int) ≤ (r2 : Int) := (by omega)
      have hl2 : (r2 : Int) < 2 := (by omega)
      refine wpAnyH_ready (rs := [1, 6, 15, 18]) (by kernel_rfl) (by simp) ?_
      refine AllReadyH.cons (o := _) rfl (fun K hK => ?_) ?_
      · ((try simp only [List.getElem_toArray, List.getElem_cons_succ, List.getElem_cons_zero]); go_simp; obtain ⟨bA, hnm, hNew⟩ := hHeld.newA'; rw [← hnm]; generalize hwn : World.alloc _ _ = wn at hNew ⊢; refine hK.out _ _ hNew.dropA (fun _ => ?_); clear hK K hHeld hwn hnm; have hHeld := hNew; clear hNew; refine anyH_more (S' := RG w g c A L d s b m (some bA) none none) (fun _ hx => hx.dropA) _ _ _ _ ?_; (try simp only [List.setIfInBounds_toArray, List.set_cons_zero, List.set_cons_succ]); (refine wpAnyH_take (i := 4) (oi := _) (v := ?_) rfl (by kernel_rfl) (by kernel_rfl) (by decide +kernel) (fun _ _ _ h => h) (Or.inl ⟨by rfl, ?_⟩) (by assumption) ?_; rotate_left; (intro wS hSw; skip; (try simp only [List.getElem_toArray, List.getElem_cons_succ, List.getElem_cons_zero]); go_simp; (try with_reducible rfl))); (try simp only [List.getElem_toArray, List.getElem_cons_succ, List.getElem_cons_zero, Act.put, List.setIfInBounds_toArray, List.set_cons_zero, List.set_cons_succ]); (refine wpAnyH_take (i := 5) (oi := _) (v := ?_) rfl (by kernel_rfl) (by kernel_rfl) (by decide +kernel) (fun _ _ _ h => h) (Or.inl ⟨by rfl, ?_⟩) (by assumption) ?_; rotate_left; (intro wS hSw; have a5 := (hSw.a _ rfl).2.2 r1 hn1; (try simp only [List.getElem_toArray, List.getElem_cons_succ, List.getElem_cons_zero]); go_simp; (try with_reducible rfl))); (try simp only [List.getElem_toArray, List.getElem_cons_succ, List.getElem_cons_zero, Act.put, List.setIfInBounds_toArray, List.set_cons_zero, List.set_cons_succ]); refine anyH_listed (listed' := #[true, true, true, true, true, true, false, true, true, false, false, true, true, true, true, false, false, false, false, false]) (by decide +kernel) ?_; exact k1002 bA r1 r2 _ hn1 hn2 hHeld)
      refine AllReadyH.cons (o := _) rfl (fun K hK => ?_) ?_
      · ((try simp only [List.getElem_toArray, List.getElem_cons_succ, List.getElem_cons_zero]); go_simp; obtain ⟨bB, hnm, hNew⟩ := hHeld.newB'; rw [← hnm]; generalize hwn : World.alloc _ _ = wn at hNew ⊢; refine hK.out _ _ hNew.dropB (fun _ => ?_); clear hK K hHeld hwn hnm; have hHeld := hNew; clear hNew; refine anyH_more (S' := RG w g c A L d s b m none (some bB) none) (fun _ hx => hx.dropB) _ _ _ _ ?_; (try simp only [List.setIfInBounds_toArray, List.set_cons_zero, List.set_cons_succ]); (refine wpAnyH_take (i := 9) (oi := _) (v := ?_) rfl (by kernel_rfl) (by kernel_rfl) (by decide +kernel) (fun _ _ _ h => h) (Or.inl ⟨by rfl, ?_⟩) (by assumption) ?_; rotate_left; (intro wS hSw; skip; (try simp only [List.getElem_toArray, List.getElem_cons_succ, List.getElem_cons_zero]); go_simp; (try with_reducible rfl))); (try simp only [List.getElem_toArray, List.getElem_cons_succ, List.getElem_cons_zero, Act.put, List.setIfInBounds_toArray, List.set_cons_zero, List.set_cons_succ]); (refine wpAnyH_take (i := 10) (oi := _) (v := ?_) rfl (by kernel_rfl) (by kernel_rfl) (by decide +kernel) (fun _ _ _ h => h) (Or.inl ⟨by rfl, ?_⟩) (by assumption) ?_; rotate_left; (intro wS hSw; have a10 := (hSw.p _ rfl).2.2 r2 hn2; (try simp only [List.getElem_toArray, List.getElem_cons_succ, List.getElem_cons_zero]); go_simp; (try with_reducible rfl))); (try simp only [List.getElem_toArray, List.getElem_cons_succ, List.getElem_cons_zero, Act.put, List.setIfInBounds_toArray, List.set_cons_zero, List.set_cons_succ]); refine anyH_listed (listed' := #[true, false, true, true, false, false, true, true, true, true, true, true, true, true, true, false, false, false, false, false]) (by decide +kernel) ?_; exact k0102 bB r1 r2 _ hn1 hn2 hHeld)
      refine AllReadyH.cons (o := _) rfl (fun K hK => ?_) ?_
      · ((try simp only [List.getElem_toArray, List.getElem_cons_succ, List.getElem_cons_zero]); go_simp; go_at_call 28; refine (HN.out _ _ (by omega) (by omega) hHeld.dice).mono ?_; rintro e wcx ⟨r3, rfl, hr3, kk, hdd, hRR⟩; have hHeld := hHeld.roll hdd hRR; clear hdd hRR; have hq3 : IntKind.i64.wrap (1 + (r3 : Int)) = 1 + (r3 : Int) := IntWalk.i64_in _ (by omega); refine hK.out _ _ hHeld (fun hHeld => ?_); clear hK K; (try simp only [List.setIfInBounds_toArray, List.set_cons_zero, List.set_cons_succ]); (refine wpAnyH_take (i := 16) (oi := _) (v := ?_) rfl (by kernel_rfl) (by kernel_rfl) (by decide +kernel) (fun _ _ _ h => h) (Or.inl ⟨by rfl, ?_⟩) (by assumption) ?_; rotate_left; (intro wS hSw; skip; (try simp only [List.getElem_toArray, List.getElem_cons_succ, List.getElem_cons_zero]); go_simp; (try with_reducible rfl))); (try simp only [List.getElem_toArray, List.getElem_cons_succ, List.getElem_cons_zero, Act.put, List.setIfInBounds_toArray, List.set_cons_zero, List.set_cons_succ]); refine anyH_listed (listed' := #[true, false, true, true, false, false, false, true, true, false, false, true, true, true, true, true, true, false, false, false]) (by decide +kernel) ?_; exact k0003 r1 r2 r3 _ hn1 hn2 hr3 hHeld)
      refine AllReadyH.cons (o := _) rfl (fun K hK => ?_) AllReadyH.nil
      ((try simp only [List.getElem_toArray, List.getElem_cons_succ, List.getElem_cons_zero]); go_simp; obtain ⟨bD, hnm, hNew⟩ := hHeld.newD'; rw [← hnm]; generalize hwn : World.alloc _ _ = wn at hNew ⊢; refine hK.out _ _ hNew.dropD (fun _ => ?_); clear hK K hHeld hwn hnm; have hHeld := hNew; clear hNew; refine anyH_more (S' := RG w g c A L d s b m none none (some bD)) (fun _ hx => hx.dropD) _ _ _ _ ?_; (try simp only [List.setIfInBounds_toArray, List.set_cons_zero, List.set_cons_succ]); refine anyH_listed (listed' := #[true, false, true, true, false, false, false, true, true, false, false, true, true, true, true, false, false, false, true, false]) (by decide +kernel) ?_; exact k0012 bD r1 r2 _ hn1 hn2 hHeld)
    have k0011 : ∀ (bD r1 : Nat) (wx : World), r1 < 3 → RG w g c A L d s b m none none (some bD) wx → wpAnyH Tryz.prog .any ops' Q' (RG w g c A L d s b m none none (some bD)) 11 #[true, false, true, true, false, false, false, true, false, false, false, true, true, true, true, false, false, false, true, false] (actC g w.heap.size d s b m (n : Int) code (.pointer (some ⟨bD, 0, none⟩)) undef (.int .i64 (r1 : Int)) undef undef undef undef undef undef undef undef undef) wx := by
      intro bD r1 wx hn1 hHeld
      subst hops hQ
      clear H0
      unfold actC
      have hz1 : (0 : Int) ≤ (r1 : Int) := (by omega)
      have hl1 : (r1 : Int) < 3 := (by omega)
      refine wpAnyH_ready (rs := [1, 6, 8]) (by kernel_rfl) (by simp) ?_
      refine AllReadyH.cons (o := _) rfl (fun K hK => ?_) ?_
      · ((try simp only [List.getElem_toArray, List.getElem_cons_succ, List.getElem_cons_zero]); go_simp; obtain ⟨bA, hnm, hNew⟩ := hHeld.newA'; rw [← hnm]; generalize hwn : World.alloc _ _ = wn at hNew ⊢; refine hK.out _ _ hNew.dropA (fun _ => ?_); clear hK K hHeld hwn hnm; have hHeld := hNew; clear hNew; refine anyH_more (S' := RG w g c A L d s b m (some bA) none (some bD)) (fun _ hx => hx.dropA) _ _ _ _ ?_; (try simp only [List.setIfInBounds_toArray, List.set_cons_zero, List.set_cons_succ]); (refine wpAnyH_take (i := 4) (oi := _) (v := ?_) rfl (by kernel_rfl) (by kernel_rfl) (by decide +kernel) (fun _ _ _ h => h) (Or.inl ⟨by rfl, ?_⟩) (by assumption) ?_; rotate_left; (intro wS hSw; skip; (try simp only [List.getElem_toArray, List.getElem_cons_succ, List.getElem_cons_zero]); go_simp; (try with_reducible rfl))); (try simp only [List.getElem_toArray, List.getElem_cons_succ, List.getElem_cons_zero, Act.put, List.setIfInBounds_toArray, List.set_cons_zero, List.set_cons_succ]); (refine wpAnyH_take (i := 5) (oi := _) (v := ?_) rfl (by kernel_rfl) (by kernel_rfl) (by decide +kernel) (fun _ _ _ h => h) (Or.inl ⟨by rfl, ?_⟩) (by assumption) ?_; rotate_left; (intro wS hSw; have a5 := (hSw.a _ rfl).2.2 r1 hn1; (try simp only [List.getElem_toArray, List.getElem_cons_succ, List.getElem_cons_zero]); go_simp; (try with_reducible rfl))); (try simp only [List.getElem_toArray, List.getElem_cons_succ, List.getElem_cons_zero, Act.put, List.setIfInBounds_toArray, List.set_cons_zero, List.set_cons_succ]); refine anyH_listed (listed' := #[true, true, true, true, true, true, false, true, false, false, false, true, true, true, true, false, false, false, true, false]) (by decide +kernel) ?_; exact k1011 bA bD r1 _ hn1 hHeld)
      refine AllReadyH.cons (o := _) rfl (fun K hK => ?_) ?_
      · ((try simp only [List.getElem_toArray, List.getElem_cons_succ, List.getElem_cons_zero]); go_simp; obtain ⟨bB, hnm, hNew⟩ := hHeld.newB'; rw [← hnm]; generalize hwn : World.alloc _ _ = wn at hNew ⊢; refine hK.out _ _ hNew.dropB (fun _ => ?_); clear hK K hHeld hwn hnm; have hHeld := hNew; clear hNew; refine anyH_more (S' := RG w g c A L d s b m none (some bB) (some bD)) (fun _ hx => hx.dropB) _ _ _ _ ?_; (try simp only [List.setIfInBounds_toArray, List.set_cons_zero, List.set_cons_succ]); refine anyH_listed (listed' := #[true, false, true, true, false, false, true, true, false, false, false, true, true, true, true, false, false, false, true, false]) (by decide +kernel) ?_; exact k0111 bB bD r1 _ hn1 hHeld)
      refine AllReadyH.cons (o := _) rfl (fun K hK => ?_) AllReadyH.nil
      ((try simp only [List.getElem_toArray, List.getElem_cons_succ, List.getElem_cons_zero]); go_simp; go_at_call 28; refine (HN.out _ 2 (by omega) (by omega) hHeld.dice).mono ?_; rintro e wcx ⟨r2, rfl, hr2, kk, hdd, hRR⟩; have hHeld := hHeld.roll hdd hRR; clear hdd hRR; have hn2 : r2 < 2 := (by omega); have hz2 : (0 : Int) ≤ (r2 : Int) := (by omega); have hl2 : (r2 : Int) < 2 := (by omega); refine hK.out _ _ hHeld (fun hHeld => ?_); clear hK K; (try simp only [List.setIfInBounds_toArray, List.set_cons_zero, List.set_cons_succ]); refine anyH_listed (listed' := #[true, false, true, true, false, false, false, true, true, false, false, true, true, true, true, false, false, false, true, false]) (by decide +kernel) ?_; exact k0012 bD r1 r2 _ hn1 hn2 hHeld)
    have k0101 : ∀ (bB r1 : Nat) (wx : World), r1 < 3 → RG w g c A L d s b m none (some bB) none wx → wpAnyH Tryz.prog .any ops' Q' (RG w g c A L d s b m none (some bB) none) 11 #[true, false, true, true, false, false, true, true, false, false, false, true, true, true, true, false, false, false, false, false] (actC g w.heap.size d s b m (n : Int) code undef undef (.int .i64 (r1 : Int)) undef undef (.slice (some ⟨bB, 0, none⟩) 2 2) undef undef undef undef undef undef) wx := by
      intro bB r1 wx hn1 hHeld
      subst hops hQ
      clear H0
      unfold actC
      have hz1 : (0 : Int) ≤ (r1 : Int) := (by omega)
      have hl1 : (r1 : Int) < 3 := (by omega)
      refine wpAnyH_ready (rs := [1, 8, 18]) (by kernel_rfl) (by simp) ?_
      refine AllReadyH.cons (o := _) rfl (fun K hK => ?_) ?_
      · ((try simp only [List.getElem_toArray, List.getElem_cons_succ, List.getElem_cons_zero]); go_simp; obtain ⟨bA, hnm, hNew⟩ := hHeld.newA'; rw [← hnm]; generalize hwn : World.alloc _ _ = wn at hNew ⊢; refine hK.out _ _ hNew.dropA (fun _ => ?_); clear hK K hHeld hwn hnm; have hHeld := hNew; clear hNew; refine anyH_more (S' := RG w g c A L d s b m (some bA) (some bB) none) (fun _ hx => hx.dropA) _ _ _ _ ?_; (try simp only [List.setIfInBounds_toArray, List.set_cons_zero, List.set_cons_succ]); (refine wpAnyH_take (i := 4) (oi := _) (v := ?_) rfl (by kernel_rfl) (by kernel_rfl) (by decide +kernel) (fun _ _ _ h => h) (Or.inl ⟨by rfl, ?_⟩) (by assumption) ?_; rotate_left; (intro wS hSw; skip; (try simp only [List.getElem_toArray, List.getElem_cons_succ, List.getElem_cons_zero]); go_simp; (try with_reducible rfl))); (try simp only [List.getElem_toArray, List.getElem_cons_succ, List.getElem_cons_zero, Act.put, List.setIfInBounds_toArray, List.set_cons_zero, List.set_cons_succ]); (refine wpAnyH_take (i := 5) (oi := _) (v := ?_) rfl (by kernel_rfl) (by kernel_rfl) (by decide +kernel) (fun _ _ _ h => h) (Or.inl ⟨by rfl, ?_⟩) (by assumption) ?_; rotate_left; (intro wS hSw; have a5 := (hSw.a _ rfl).2.2 r1 hn1; (try simp only [List.getElem_toArray, List.getElem_cons_succ, List.getElem_cons_zero]); go_simp; (try with_reducible rfl))); (try simp only [List.getElem_toArray, List.getElem_cons_succ, List.getElem_cons_zero, Act.put, List.setIfInBounds_toArray, List.set_cons_zero, List.set_cons_succ]); refine anyH_listed (listed' := #[true, true, true, true, true, true, true, true, false, false, false, true, true, true, true, false, false, false, false, false]) (by decide +kernel) ?_; exact k1101 bA bB r1 _ hn1 hHeld)
      refine AllReadyH.cons (o := _) rfl (fun K hK => ?_) ?_
      · ((try simp only [List.getElem_toArray, List.getElem_cons_succ, List.getElem_cons_zero]); go_simp; go_at_call 28; refine (HN.out _ 2 (by omega) (by omega) hHeld.dice).mono ?_; rintro e wcx ⟨r2, rfl, hr2, kk, hdd, hRR⟩; have hHeld := hHeld.roll hdd hRR; clear hdd hRR; have hn2 : r2 < 2 := (by omega); have hz2 : (0 : Int) ≤ (r2 : Int) := (by omega); have hl2 : (r2 : Int) < 2 := (by omega); refine hK.out _ _ hHeld (fun hHeld => ?_); clear hK K; (try simp only [List.setIfInBounds_toArray, List.set_cons_zero, List.set_cons_succ]); (refine wpAnyH_take (i := 9) (oi := _) (v := ?_) rfl (by kernel_rfl) (by kernel_rfl) (by decide +kernel) (fun _ _ _ h => h) (Or.inl ⟨by rfl, ?_⟩) (by assumption) ?_; rotate_left; (intro wS hSw; skip; (try simp only [List.getElem_toArray, List.getElem_cons_succ, List.getElem_cons_zero]); go_simp; (try with_reducible rfl))); (try simp only [List.getElem_toArray, List.getElem_cons_succ, List.getElem_cons_zero, Act.put, List.setIfInBounds_toArray, List.set_cons_zero, List.set_cons_succ]); (refine wpAnyH_take (i := 10) (oi := _) (v := ?_) rfl (by kernel_rfl) (by kernel_rfl) (by decide +kernel) (fun _ _ _ h => h) (Or.inl ⟨by rfl, ?_⟩) (by assumption) ?_; rotate_left; (intro wS hSw; have a10 := (hSw.p _ rfl).2.2 r2 hn2; (try simp only [List.getElem_toArray, List.getElem_cons_succ, List.getElem_cons_zero]); go_simp; (try with_reducible rfl))); (try simp only [List.getElem_toArray, List.getElem_cons_succ, List.getElem_cons_zero, Act.put, List.setIfInBounds_toArray, List.set_cons_zero, List.set_cons_succ]); refine anyH_listed (listed' := #[true, false, true, true, false, false, true, true, true, true, true, true, true, true, true, false, false, false, false, false]) (by decide +kernel) ?_; exact k0102 bB r1 r2 _ hn1 hn2 hHeld)
      refine AllReadyH.cons (o := _) rfl (fun K hK => ?_) AllReadyH.nil
      ((try simp only [List.getElem_toArray, List.getElem_cons_succ, List.getElem_cons_zero]); go_simp; obtain ⟨bD, hnm, hNew⟩ := hHeld.newD'; rw [← hnm]; generalize hwn : World.alloc _ _ = wn at hNew ⊢; refine hK.out _ _ hNew.dropD (fun _ => ?_); clear hK K hHeld hwn hnm; have hHeld := hNew; clear hNew; refine anyH_more (S' := RG w g c A L d s b m none (some bB) (some bD)) (fun _ hx => hx.dropD) _ _ _ _ ?_; (try simp only [List.setIfInBounds_toArray, List.set_cons_zero, List.set_cons_succ]); refine anyH_listed (listed' := #[true, false, true, true, false, false, true, true, false, false, false, true, true, true, true, false, false, false, true, false]) (by decide +kernel) ?_; exact k0111 bB bD r1 _ hn1 hHeld)
    have k0110 : ∀ (bB bD : Nat) (wx : World), RG w g c A L d s b m none (some bB) (some bD) wx → wpAnyH Tryz.prog .any ops' Q' (RG w g c A L d s b m none (some bB) (some bD)) 11 #[true, false, true, false, false, false, true, true, false, false, false, true, true, true, true, false, false, false, true, false] (actC g w.heap.size d s b m (n : Int) code (.pointer (some ⟨bD, 0, none⟩)) undef undef undef undef (.slice (some ⟨bB, 0, none⟩) 2 2) undef undef undef undef undef undef) wx := by
      intro bB bD wx hHeld
      subst hops hQ
      clear H0
      unfold actC
      refine wpAnyH_ready (rs := [1, 3]) (by kernel_rfl) (by simp) ?_
      refine AllReadyH.cons (o := _) rfl (fun K hK => ?_) ?_
      · ((try simp only [List.getElem_toArray, List.getElem_cons_succ, List.getElem_cons_zero]); go_simp; obtain ⟨bA, hnm, hNew⟩ := hHeld.newA'; rw [← hnm]; generalize hwn : World.alloc _ _ = wn at hNew ⊢; refine hK.out _ _ hNew.dropA (fun _ => ?_); clear hK K hHeld hwn hnm; have hHeld := hNew; clear hNew; refine anyH_more (S' := RG w g c A L d s b m (some bA) (some bB) (some bD)) (fun _ hx => hx.dropA) _ _ _ _ ?_; (try simp only [List.setIfInBounds_toArray, List.set_cons_zero, List.set_cons_succ]); refine anyH_listed (listed' := #[true, true, true, false, false, false, true, true, false, false, false, true, true, true, true, false, false, false, true, false]) (by decide +kernel) ?_; exact k1110 bA bB bD _ hHeld)
      refine AllReadyH.cons (o := _) rfl (fun K hK => ?_) AllReadyH.nil
      ((try simp only [List.getElem_toArray, List.getElem_cons_succ, List.getElem_cons_zero]); go_simp; go_at_call 28; refine (HN.out _ 3 (by omega) (by omega) hHeld.dice).mono ?_; rintro e wcx ⟨r1, rfl, hr1, kk, hdd, hRR⟩; have hHeld := hHeld.roll hdd hRR; clear hdd hRR; have hn1 : r1 < 3 := (by omega); have hz1 : (0 : Int) ≤ (r1 : Int) := (by omega); have hl1 : (r1 : Int) < 3 := (by omega); refine hK.out _ _ hHeld (fun hHeld => ?_); clear hK K; (try simp only [List.setIfInBounds_toArray, List.set_cons_zero, List.set_cons_succ]); refine anyH_listed (listed' := #[true, false, true, true, false, false, true, true, false, false, false, true, true, true, true, false, false, false, true, false]) (by decide +kernel) ?_; exact k0111 bB bD r1 _ hn1 hHeld)
    have k1001 : ∀ (bA r1 : Nat) (wx : World), r1 < 3 → RG w g c A L d s b m (some bA) none none wx → wpAnyH Tryz.prog .any ops' Q' (RG w g c A L d s b m (some bA) none none) 9 #[true, true, true, true, true, true, false, true, false, false, false, true, true, true, true, false, false, false, false, false] (actC g w.heap.size d s b m (n : Int) code undef (.slice (some ⟨bA, 0, none⟩) 3 3) (.int .i64 (r1 : Int)) (.pointer (some ⟨bA, r1, none⟩)) (.string (ba (courseS r1))) undef undef undef undef undef undef undef) wx := by
      intro bA r1 wx hn1 hHeld
      subst hops hQ
      clear H0
      unfold actC
      have hz1 : (0 : Int) ≤ (r1 : Int) := (by omega)
      have hl1 : (r1 : Int) < 3 := (by omega)
      refine wpAnyH_ready (rs := [6, 8, 18]) (by kernel_rfl) (by simp) ?_
      refine AllReadyH.cons (o := _) rfl (fun K hK => ?_) ?_
      · ((try simp only [List.getElem_toArray, List.getElem_cons_succ, List.getElem_cons_zero]); go_simp; obtain ⟨bB, hnm, hNew⟩ := hHeld.newB'; rw [← hnm]; generalize hwn : World.alloc _ _ = wn at hNew ⊢; refine hK.out _ _ hNew.dropB (fun _ => ?_); clear hK K hHeld hwn hnm; have hHeld := hNew; clear hNew; refine anyH_more (S' := RG w g c A L d s b m (some bA) (some bB) none) (fun _ hx => hx.dropB) _ _ _ _ ?_; (try simp only [List.setIfInBounds_toArray, List.set_cons_zero, List.set_cons_succ]); refine anyH_listed (listed' := #[true, true, true, true, true, true, true, true, false, false, false, true, true, true, true, false, false, false, false, false]) (by decide +kernel) ?_; exact k1101 bA bB r1 _ hn1 hHeld)
      refine AllReadyH.cons (o := _) rfl (fun K hK => ?_) ?_
      · ((try simp only [List.getElem_toArray, List.getElem_cons_succ, List.getElem_cons_zero]); go_simp; go_at_call 28; refine (HN.out _ 2 (by omega) (by omega) hHeld.dice).mono ?_; rintro e wcx ⟨r2, rfl, hr2, kk, hdd, hRR⟩; have hHeld := hHeld.roll hdd hRR; clear hdd hRR; have hn2 : r2 < 2 := (by omega); have hz2 : (0 : Int) ≤ (r2 : Int) := (by omega); have hl2 : (r2 : Int) < 2 := (by omega); refine hK.out _ _ hHeld (fun hHeld => ?_); clear hK K; (try simp only [List.setIfInBounds_toArray, List.set_cons_zero, List.set_cons_succ]); refine anyH_listed (listed' := #[true, true, true, true, true, true, false, true, true, false, false, true, true, true, true, false, false, false, false, false]) (by decide +kernel) ?_; exact k1002 bA r1 r2 _ hn1 hn2 hHeld)
      refine AllReadyH.cons (o := _) rfl (fun K hK => ?_) AllReadyH.nil
      ((try simp only [List.getElem_toArray, List.getElem_cons_succ, List.getElem_cons_zero]); go_simp; obtain ⟨bD, hnm, hNew⟩ := hHeld.newD'; rw [← hnm]; generalize hwn : World.alloc _ _ = wn at hNew ⊢; refine hK.out _ _ hNew.dropD (fun _ => ?_); clear hK K hHeld hwn hnm; have hHeld := hNew; clear hNew; refine anyH_more (S' := RG w g c A L d s b m (some bA) none (some bD)) (fun _ hx => hx.dropD) _ _ _ _ ?_; (try simp only [List.setIfInBounds_toArray, List.set_cons_zero, List.set_cons_succ]); refine anyH_listed (listed' := #[true, true, true, true, true, true, false, true, false, false, false, true, true, true, true, false, false, false, true, false]) (by decide +kernel) ?_; exact k1011 bA bD r1 _ hn1 hHeld)
    have k1010 : ∀ (bA bD : Nat) (wx : World), RG w g c A L d s b m (some bA) none (some bD) wx → wpAnyH Tryz.prog .any ops' Q' (RG w g c A L d s b m (some bA) none (some bD)) 11 #[true, true, true, false, false, false, false, true, false, false, false, true, true, true, true, false, false, false, true, false] (actC g w.heap.size d s b m (n : Int) code (.pointer (some ⟨bD, 0, none⟩)) (.slice (some ⟨bA, 0, none⟩) 3 3) undef undef undef undef undef undef undef undef undef undef) wx := by
      intro bA bD wx hHeld
      subst hops hQ
      clear H0
      unfold actC
      refine wpAnyH_ready (rs := [3, 6]) (by kernel_rfl) (by simp) ?_
      refine AllReadyH.cons (o := _) rfl (fun K hK => ?_) ?_
      · ((try simp only [List.getElem_toArray, List.getElem_cons_succ, List.getElem_cons_zero]); go_simp; go_at_call 28; refine (HN.out _ 3 (by omega) (by omega) hHeld.dice).mono ?_; rintro e wcx ⟨r1, rfl, hr1, kk, hdd, hRR⟩; have hHeld := hHeld.roll hdd hRR; clear hdd hRR; have hn1 : r1 < 3 := (by omega); have hz1 : (0 : Int) ≤ (r1 : Int) := (by omega); have hl1 : (r1 : Int) < 3 := (by omega); refine hK.out _ _ hHeld (fun hHeld => ?_); clear hK K; (try simp only [List.setIfInBounds_toArray, List.set_cons_zero, List.set_cons_succ]); (refine wpAnyH_take (i := 4) (oi := _) (v := ?_) rfl (by kernel_rfl) (by kernel_rfl) (by decide +kernel) (fun _ _ _ h => h) (Or.inl ⟨by rfl, ?_⟩) (by assumption) ?_; rotate_left; (intro wS hSw; skip; (try simp only [List.getElem_toArray, List.getElem_cons_succ, List.getElem_cons_zero]); go_simp; (try with_reducible rfl))); (try simp only [List.getElem_toArray, List.getElem_cons_succ, List.getElem_cons_zero, Act.put, List.setIfInBounds_toArray, List.set_cons_zero, List.set_cons_succ]); (refine wpAnyH_take (i := 5) (oi := _) (v := ?_) rfl (by kernel_rfl) (by kernel_rfl) (by decide +kernel) (fun _ _ _ h => h) (Or.inl ⟨by rfl, ?_⟩) (by assumption) ?_; rotate_left; (intro wS hSw; have a5 := (hSw.a _ rfl).2.2 r1 hn1; (try simp only [List.getElem_toArray, List.getElem_cons_succ, List.getElem_cons_zero]); go_simp; (try with_reducible rfl))); (try simp only [List.getElem_toArray, List.getElem_cons_succ, List.getElem_cons_zero, Act.put, List.setIfInBounds_toArray, List.set_cons_zero, List.set_cons_succ]); refine anyH_listed (listed' := #[true, true, true, true, true, true, false, true, false, false, false, true, true, true, true, false, false, false, true, false]) (by decide +kernel) ?_; exact k1011 bA bD r1 _ hn1 hHeld)
      refine AllReadyH.cons (o := _) rfl (fun K hK => ?_) AllReadyH.nil
      ((try simp only [List.getElem_toArray, List.getElem_cons_succ, List.getElem_cons_zero]); go_simp; obtain ⟨bB, hnm, hNew⟩ := hHeld.newB'; rw [← hnm]; generalize hwn : World.alloc _ _ = wn at hNew ⊢; refine hK.out _ _ hNew.dropB (fun _ => ?_); clear hK K hHeld hwn hnm; have hHeld := hNew; clear hNew; refine anyH_more (S' := RG w g c A L d s b m (some bA) (some bB) (some bD)) (fun _ hx => hx.dropB) _ _ _ _ ?_; (try simp only [List.setIfInBounds_toArray, List.set_cons_zero, List.set_cons_succ]); refine anyH_listed (listed' := #[true, true, true, false, false, false, true, true, false, false, false, true, true, true, true, false, false, false, true, false]) (by decide +kernel) ?_; exact k1110 bA bB bD _ hHeld)
    have k1100 : ∀ (bA bB : Nat) (wx : World), RG w g c A L d s b m (some bA) (some bB) none wx → wpAnyH Tryz.prog .any ops' Q' (RG w g c A L d s b m (some bA) (some bB) none) 11 #[true, true, true, false, false, false, true, true, false, false, false, true, true, true, true, false, false, false, false, false] (actC g w.heap.size d s b m (n : Int) code undef (.slice (some ⟨bA, 0, none⟩) 3 3) undef undef undef (.slice (some ⟨bB, 0, none⟩) 2 2) undef undef undef undef undef undef) wx := by
      intro bA bB wx hHeld
      subst hops hQ
      clear H0
      unfold actC
      refine wpAnyH_ready (rs := [3, 18]) (by kernel_rfl) (by simp) ?_
      refine AllReadyH.cons (o := _) rfl (fun K hK => ?_) ?_
      · ((try simp only [List.getElem_toArray, List.getElem_cons_succ, List.getElem_cons_zero]); go_simp; go_at_call 28; refine (HN.out _ 3 (by omega) (by omega) hHeld.dice).mono ?_; rintro e wcx ⟨r1, rfl, hr1, kk, hdd, hRR⟩; have hHeld := hHeld.roll hdd hRR; clear hdd hRR; have hn1 : r1 < 3 := (by omega); have hz1 : (0 : Int) ≤ (r1 : Int) := (by omega); have hl1 : (r1 : Int) < 3 := (by omega); refine hK.out _ _ hHeld (fun hHeld => ?_); clear hK K; (try simp only [List.setIfInBounds_toArray, List.set_cons_zero, List.set_cons_succ]); (refine wpAnyH_take (i := 4) (oi := _) (v := ?_) rfl (by kernel_rfl) (by kernel_rfl) (by decide +kernel) (fun _ _ _ h => h) (Or.inl ⟨by rfl, ?_⟩) (by assumption) ?_; rotate_left; (intro wS hSw; skip; (try simp only [List.getElem_toArray, List.getElem_cons_succ, List.getElem_cons_zero]); go_simp; (try with_reducible rfl))); (try simp only [List.getElem_toArray, List.getElem_cons_succ, List.getElem_cons_zero, Act.put, List.setIfInBounds_toArray, List.set_cons_zero, List.set_cons_succ]); (refine wpAnyH_take (i := 5) (oi := _) (v := ?_) rfl (by kernel_rfl) (by kernel_rfl) (by decide +kernel) (fun _ _ _ h => h) (Or.inl ⟨by rfl, ?_⟩) (by assumption) ?_; rotate_left; (intro wS hSw; have a5 := (hSw.a _ rfl).2.2 r1 hn1; (try simp only [List.getElem_toArray, List.getElem_cons_succ, List.getElem_cons_zero]); go_simp; (try with_reducible rfl))); (try simp only [List.getElem_toArray, List.getElem_cons_succ, List.getElem_cons_zero, Act.put, List.setIfInBounds_toArray, List.set_cons_zero, List.set_cons_succ]); refine anyH_listed (listed' := #[true, true, true, true, true, true, true, true, false, false, false, true, true, true, true, false, false, false, false, false]) (by decide +kernel) ?_; exact k1101 bA bB r1 _ hn1 hHeld)
      refine AllReadyH.cons (o := _) rfl (fun K hK => ?_) AllReadyH.nil
      ((try simp only [List.getElem_toArray, List.getElem_cons_succ, List.getElem_cons_zero]); go_simp; obtain ⟨bD, hnm, hNew⟩ := hHeld.newD'; rw [← hnm]; generalize hwn : World.alloc _ _ = wn at hNew ⊢; refine hK.out _ _ hNew.dropD (fun _ => ?_); clear hK K hHeld hwn hnm; have hHeld := hNew; clear hNew; refine anyH_more (S' := RG w g c A L d s b m (some bA) (some bB) (some bD)) (fun _ hx => hx.dropD) _ _ _ _ ?_; (try simp only [List.setIfInBounds_toArray, List.set_cons_zero, List.set_cons_succ]); refine anyH_listed (listed' := #[true, true, true, false, false, false, true, true, false, false, false, true, true, true, true, false, false, false, true, false]) (by decide +kernel) ?_; exact k1110 bA bB bD _ hHeld)
    have k0001 : ∀ (r1 : Nat) (wx : World), r1 < 3 → RG w g c A L d s b m none none none wx → wpAnyH Tryz.prog .any ops' Q' (RG w g c A L d s b m none none none) 12 #[true, false, true, true, false, false, false, true, false, false, false, true, true, true, true, false, false, false, false, false] (actC g w.heap.size d s b m (n : Int) code undef undef (.int .i64 (r1 : Int)) undef undef undef undef undef undef undef undef undef) wx := by
      intro r1 wx hn1 hHeld
      subst hops hQ
      clear H0
      unfold actC
      have hz1 : (0 : Int) ≤ (r1 : Int) := (by omega)
      have hl1 : (r1 : Int) < 3 := (by omega)
      refine wpAnyH_ready (rs := [1, 6, 8, 18]) (by kernel_rfl) (by simp) ?_
      refine AllReadyH.cons (o := _) rfl (fun K hK => ?_) ?_
      · ((try simp only [List.getElem_toArray, List.getElem_cons_succ, List.getElem_cons_zero]); go_simp; obtain ⟨bA, hnm, hNew⟩ := hHeld.newA'; rw [← hnm]; generalize hwn : World.alloc _ _ = wn at hNew ⊢; refine hK.out _ _ hNew.dropA (fun _ => ?_); clear hK K hHeld hwn hnm; have hHeld := hNew; clear hNew; refine anyH_more (S' := RG w g c A L d s b m (some bA) none none) (fun _ hx => hx.dropA) _ _ _ _ ?_; (try simp only [List.setIfInBounds_toArray, List.set_cons_zero, List.set_cons_succ]); (refine wpAnyH_take (i := 4) (oi := _) (v := ?_) rfl (by kernel_rfl) (by kernel_rfl) (by decide +kernel) (fun _ _ _ h => h) (Or.inl ⟨by rfl, ?_⟩) (by assumption) ?_; rotate_left; (intro wS hSw; skip; (try simp only [List.getElem_toArray, List.getElem_cons_succ, List.getElem_cons_zero]); go_simp; (try with_reducible rfl))); (try simp only [List.getElem_toArray, List.getElem_cons_succ, List.getElem_cons_zero, Act.put, List.setIfInBounds_toArray, List.set_cons_zero, List.set_cons_succ]); (refine wpAnyH_take (i := 5) (oi := _) (v := ?_) rfl (by kernel_rfl) (by kernel_rfl) (by decide +kernel) (fun _ _ _ h => h) (Or.inl ⟨by rfl, ?_⟩) (by assumption) ?_; rotate_left; (intro wS hSw; have a5 := (hSw.a _ rfl).2.2 r1 hn1; (try simp only [List.getElem_toArray, List.getElem_cons_succ, List.getElem_cons_zero]); go_simp; (try with_reducible rfl))); (try simp only [List.getElem_toArray, List.getElem_cons_succ, List.getElem_cons_zero, Act.put, List.setIfInBounds_toArray, List.set_cons_zero, List.set_cons_succ]); refine anyH_listed (listed' := #[true, true, true, true, true, true, false, true, false, false, false, true, true, true, true, false, false, false, false, false]) (by decide +kernel) ?_; exact k1001 bA r1 _ hn1 hHeld)
      refine AllReadyH.cons (o := _) rfl (fun K hK => ?_) ?_
      · ((try simp only [List.getElem_toArray, List.getElem_cons_succ, List.getElem_cons_zero]); go_simp; obtain ⟨bB, hnm, hNew⟩ := hHeld.newB'; rw [← hnm]; generalize hwn : World.alloc _ _ = wn at hNew ⊢; refine hK.out _ _ hNew.dropB (fun _ => ?_); clear hK K hHeld hwn hnm; have hHeld := hNew; clear hNew; refine anyH_more (S' := RG w g c A L d s b m none (some bB) none) (fun _ hx => hx.dropB) _ _ _ _ ?_; (try simp only [List.setIfInBounds_toArray, List.set_cons_zero, List.set_cons_succ]); refine anyH_listed (listed' := #[true, false, true, true, false, false, true, true, false, false, false, true, true, true, true, false, false, false, false, false]) (by decide +kernel) ?_; exact k0101 bB r1 _ hn1 hHeld)
      refine AllReadyH.cons (o := _) rfl (fun K hK => ?_) ?_
      · ((try simp only [List.getElem_toArray, List.getElem_cons_succ, List.getElem_cons_zero]); go_simp; go_at_call 28; refine (HN.out _ 2 (by omega) (by omega) hHeld.dice).mono ?_; rintro e wcx ⟨r2, rfl, hr2, kk, hdd, hRR⟩; have hHeld := hHeld.roll hdd hRR; clear hdd hRR; have hn2 : r2 < 2 := (by omega); have hz2 : (0 : Int) ≤ (r2 : Int) := (by omega); have hl2 : (r2 : Int) < 2 := (by omega); refine hK.out _ _ hHeld (fun hHeld => ?_); clear hK K; (try simp only [List.setIfInBounds_toArray, List.set_cons_zero, List.set_cons_succ]); refine anyH_listed (listed' := #[true, false, true, true, false, false, false, true, true, false, false, true, true, true, true, false, false, false, false, false]) (by decide +kernel) ?_; exact k0002 r1 r2 _ hn1 hn2 hHeld)
      refine AllReadyH.cons (o := _) rfl (fun K hK => ?_) AllReadyH.nil
      ((try simp only [List.getElem_toArray, List.getElem_cons_succ, List.getElem_cons_zero]); go_simp; obtain ⟨bD, hnm, hNew⟩ := hHeld.newD'; rw [← hnm]; generalize hwn : World.alloc _ _ = wn at hNew ⊢; refine hK.out _ _ hNew.dropD (fun _ => ?_); clear hK K hHeld hwn hnm; have hHeld := hNew; clear hNew; refine anyH_more (S' := RG w g c A L d s b m none none (some bD)) (fun _ hx => hx.dropD) _ _ _ _ ?_; (try simp only [List.setIfInBounds_toArray, List.set_cons_zero, List.set_cons_succ]); refine anyH_listed (listed' := #[true, false, true, true, false, false, false, true, false, false, false, true, true, true, true, false, false, false, true, false]) (by decide +kernel) ?_; exact k0011 bD r1 _ hn1 hHeld)
    have k0010 : ∀ (bD : Nat) (wx : World), RG w g c A L d s b m none none (some bD) wx → wpAnyH Tryz.prog .any ops' Q' (RG w g c A L d s b m none none (some bD)) 12 #[true, false, true, false, false, false, false, true, false, false, false, true, true, true, true, false, false, false, true, false] (actC g w.heap.size d s b m (n : Int) code (.pointer (some ⟨bD, 0, none⟩)) undef undef undef undef undef undef undef undef undef undef undef) wx := by
      intro bD wx hHeld
      subst hops hQ
      clear H0
      unfold actC
      refine wpAnyH_ready (rs := [1, 3, 6]) (by kernel_rfl) (by simp) ?_
      refine AllReadyH.cons (o := _) rfl (fun K hK => ?_) ?_
      · ((try simp only [List.getElem_toArray, List.getElem_cons_succ, List.getElem_cons_zero]); go_simp; obtain ⟨bA, hnm, hNew⟩ := hHeld.newA'; rw [← hnm]; generalize hwn : World.alloc _ _ = wn at hNew ⊢; refine hK.out _ _ hNew.dropA (fun _ => ?_); clear hK K hHeld hwn hnm; have hHeld := hNew; clear hNew; refine anyH_more (S' := RG w g c A L d s b m (some bA) none (some bD)) (fun _ hx => hx.dropA) _ _ _ _ ?_; (try simp only [List.setIfInBounds_toArray, List.set_cons_zero, List.set_cons_succ]); refine anyH_listed (listed' := #[true, true, true, false, false, false, false, true, false, false, false, true, true, true, true, false, false, false, true, false]) (by decide +kernel) ?_; exact k1010 bA bD _ hHeld)
      refine AllReadyH.cons (o := _) rfl (fun K hK => ?_) ?_
      · ((try simp only [List.getElem_toArray, List.getElem_cons_succ, List.getElem_cons_zero]); go_simp; go_at_call 28; refine (HN.out _ 3 (by omega) (by omega) hHeld.dice).mono ?_; rintro e wcx ⟨r1, rfl, hr1, kk, hdd, hRR⟩; have hHeld := hHeld.roll hdd hRR; clear hdd hRR; have hn1 : r1 < 3 := (by omega); have hz1 : (0 : Int) ≤ (r1 : Int) := (by omega); have hl1 : (r1 : Int) < 3 := (by omega); refine hK.out _ _ hHeld (fun hHeld => ?_); clear hK K; (try simp only [List.setIfInBounds_toArray, List.set_cons_zero, List.set_cons_succ]); refine anyH_listed (listed' := #[true, false, true, true, false, false, false, true, false, false, false, true, true, true, true, false, false, false, true, false]) (by decide +kernel) ?_; exact k0011 bD r1 _ hn1 hHeld)
      refine AllReadyH.cons (o := _) rfl (fun K hK => ?_) AllReadyH.nil
      ((try simp only [List.getElem_toArray, List.getElem_cons_succ, List.getElem_cons_zero]); go_simp; obtain ⟨bB, hnm, hNew⟩ := hHeld.newB'; rw [← hnm]; generalize hwn : World.alloc _ _ = wn at hNew ⊢; refine hK.out _ _ hNew.dropB (fun _ => ?_); clear hK K hHeld hwn hnm; have hHeld := hNew; clear hNew; refine anyH_more (S' := RG w g c A L d s b m none (some bB) (some bD)) (fun _ hx => hx.dropB) _ _ _ _ ?_; (try simp only [List.setIfInBounds_toArray, List.set_cons_zero, List.set_cons_succ]); refine anyH_listed (listed' := #[true, false, true, false, false, false, true, true, false, false, false, true, true, true, true, false, false, false, true, false]) (by decide +kernel) ?_; exact k0110 bB bD _ hHeld)
    have k0100 : ∀ (bB : Nat) (wx : World), RG w g c A L d s b m none (some bB) none wx → wpAnyH Tryz.prog .any ops' Q' (RG w g c A L d s b m none (some bB) none) 12 #[true, false, true, false, false, false, true, true, false, false, false, true, true, true, true, false, false, false, false, false] (actC g w.heap.size d s b m (n : Int) code undef undef undef undef undef (.slice (some ⟨bB, 0, none⟩) 2 2) undef undef undef undef undef undef) wx := by
      intro bB wx hHeld
      subst hops hQ
      clear H0
      unfold actC
      refine wpAnyH_ready (rs := [1, 3, 18]) (by kernel_rfl) (by simp) ?_
      refine AllReadyH.cons (o := _) rfl (fun K hK => ?_) ?_
      · ((try simp only [List.getElem_toArray, List.getElem_cons_succ, List.getElem_cons_zero]); go_simp; obtain ⟨bA, hnm, hNew⟩ := hHeld.newA'; rw [← hnm]; generalize hwn : World.alloc _ _ = wn at hNew ⊢; refine hK.out _ _ hNew.dropA (fun _ => ?_); clear hK K hHeld hwn hnm; have hHeld := hNew; clear hNew; refine anyH_more (S' := RG w g c A L d s b m (some bA) (some bB) none) (fun _ hx => hx.dropA) _ _ _ _ ?_; (try simp only [List.setIfInBounds_toArray, List.set_cons_zero, List.set_cons_succ]); refine anyH_listed (listed' := #[true, true, true, false, false, false, true, true, false, false, false, true, true, true, true, false, false, false, false, false]) (by decide +kernel) ?_; exact k1100 bA bB _ hHeld)
      refine AllReadyH.cons (o := _) rfl (fun K hK => ?_) ?_
      · ((try simp only [List.getElem_toArray, List.getElem_cons_succ, List.getElem_cons_zero]); go_simp; go_at_call 28; refine (HN.out _ 3 (by omega) (by omega) hHeld.dice).mono ?_; rintro e wcx ⟨r1, rfl, hr1, kk, hdd, hRR⟩; have hHeld := hHeld.roll hdd hRR; clear hdd hRR; have hn1 : r1 < 3 := (by omega); have hz1 : (0 : Int) ≤ (r1 : Int) := (by omega); have hl1 : (r1 : Int) < 3 := (by omega); refine hK.out _ _ hHeld (fun hHeld => ?_); clear hK K; (try simp only [List.setIfInBounds_toArray, List.set_cons_zero, List.set_cons_succ]); refine anyH_listed (listed' := #[true, false, true, true, false, false, true, true, false, false, false, true, true, true, true, false, false, false, false, false]) (by decide +kernel) ?_; exact k0101 bB r1 _ hn1 hHeld)
      refine AllReadyH.cons (o := _) rfl (fun K hK => ?_) AllReadyH.nil
      ((try simp only [List.getElem_toArray, List.getElem_cons_succ, List.getElem_cons_zero]); go_simp; obtain ⟨bD, hnm, hNew⟩ := hHeld.newD'; rw [← hnm]; generalize hwn : World.alloc _ _ = wn at hNew ⊢; refine hK.out _ _ hNew.dropD (fun _ => ?_); clear hK K hHeld hwn hnm; have hHeld := hNew; clear hNew; refine anyH_more (S' := RG w g c A L d s b m none (some bB) (some bD)) (fun _ hx => hx.dropD) _ _ _ _ ?_; (try simp only [List.setIfInBounds_toArray, List.set_cons_zero, List.set_cons_succ]); refine anyH_listed (listed' := #[true, false, true, false, false, false, true, true, false, false, false, true, true, true, true, false, false, false, true, false]) (by decide +kernel) ?_; exact k0110 bB bD _ hHeld)
    have k1000 : ∀ (bA : Nat) (wx : World), RG w g c A L d s b m (some bA) none none wx → wpAnyH Tryz.prog .any ops' Q' (RG w g c A L d s b m (some bA) none none) 12 #[true, true, true, false, false, false, false, true, false, false, false, true, true, true, true, false, false, false, false, false] (actC g w.heap.size d s b m (n : Int) code undef (.slice (some ⟨bA, 0, none⟩) 3 3) undef undef undef undef undef undef undef undef undef undef) wx := by
      intro bA wx hHeld
      subst hops hQ
      clear H0
      unfold actC
      refine wpAnyH_ready (rs := [3, 6, 18]) (by kernel_rfl) (by simp) ?_
      refine AllReadyH.cons (o := _) rfl (fun K hK => ?_) ?_
      · ((try simp only [List.getElem_toArray, List.getElem_cons_succ, List.getElem_cons_zero]); go_simp; go_at_call 28; refine (HN.out _ 3 (by omega) (by omega) hHeld.dice).mono ?_; rintro e wcx ⟨r1, rfl, hr1, kk, hdd, hRR⟩; have hHeld := hHeld.roll hdd hRR; clear hdd hRR; have hn1 : r1 < 3 := (by omega); have hz1 : (0 : Int) ≤ (r1 : Int) := (by omega); have hl1 : (r1 : Int) < 3 := (by omega); refine hK.out _ _ hHeld (fun hHeld => ?_); clear hK K; (try simp only [List.setIfInBounds_toArray, List.set_cons_zero, List.set_cons_succ]); (refine wpAnyH_take (i := 4) (oi := _) (v := ?_) rfl (by kernel_rfl) (by kernel_rfl) (by decide +kernel) (fun _ _ _ h => h) (Or.inl ⟨by rfl, ?_⟩) (by assumption) ?_; rotate_left; (intro wS hSw; skip; (try simp only [List.getElem_toArray, List.getElem_cons_succ, List.getElem_cons_zero]); go_simp; (try with_reducible rfl))); (try simp only [List.getElem_toArray, List.getElem_cons_succ, List.getElem_cons_zero, Act.put, List.setIfInBounds_toArray, List.set_cons_zero, List.set_cons_succ]); (refine wpAnyH_take (i := 5) (oi := _) (v := ?_) rfl (by kernel_rfl) (by kernel_rfl) (by decide +kernel) (fun _ _ _ h => h) (Or.inl ⟨by rfl, ?_⟩) (by assumption) ?_; rotate_left; (intro wS hSw; have a5 := (hSw.a _ rfl).2.2 r1 hn1; (try simp only [List.getElem_toArray, List.getElem_cons_succ, List.getElem_cons_zero]); go_simp; (try with_reducible rfl))); (try simp only [List.getElem_toArray, List.getElem_cons_succ, List.getElem_cons_zero, Act.put, List.setIfInBounds_toArray, List.set_cons_zero, List.set_cons_succ]); refine anyH_listed (listed' := #[true, true, true, true, true, true, false, true, false, false, false, true, true, true, true, false, false, false, false, false]) (by decide +kernel) ?_; exact k1001 bA r1 _ hn1 hHeld)
      refine AllReadyH.cons (o := _) rfl (fun K hK => ?_) ?_
      · ((try simp only [List.getElem_toArray, List.getElem_cons_succ, List.getElem_cons_zero]); go_simp; obtain ⟨bB, hnm, hNew⟩ := hHeld.newB'; rw [← hnm]; generalize hwn : World.alloc _ _ = wn at hNew ⊢; refine hK.out _ _ hNew.dropB (fun _ => ?_); clear hK K hHeld hwn hnm; have hHeld := hNew; clear hNew; refine anyH_more (S' := RG w g c A L d s b m (some bA) (some bB) none) (fun _ hx => hx.dropB) _ _ _ _ ?_; (try simp only [List.setIfInBounds_toArray, List.set_cons_zero, List.set_cons_succ]); refine anyH_listed (listed' := #[true, true, true, false, false, false, true, true, false, false, false, true, true, true, true, false, false, false, false, false]) (by decide +kernel) ?_; exact k1100 bA bB _ hHeld)
      refine AllReadyH.cons (o := _) rfl (fun K hK => ?_) AllReadyH.nil
      ((try simp only [List.getElem_toArray, List.getElem_cons_succ, List.getElem_cons_zero]); go_simp; obtain ⟨bD, hnm, hNew⟩ := hHeld.newD'; rw [← hnm]; generalize hwn : World.alloc _ _ = wn at hNew ⊢; refine hK.out _ _ hNew.dropD (fun _ => ?_); clear hK K hHeld hwn hnm; have hHeld := hNew; clear hNew; refine anyH_more (S' := RG w g c A L d s b m (some bA) none (some bD)) (fun _ hx => hx.dropD) _ _ _ _ ?_; (try simp only [List.setIfInBounds_toArray, List.set_cons_zero, List.set_cons_succ]); refine anyH_listed (listed' := #[true, true, true, false, false, false, false, true, false, false, false, true, true, true, true, false, false, false, true, false]) (by decide +kernel) ?_; exact k1010 bA bD _ hHeld)
    subst hops hQ
    refine wpAnyH_ready (rs := [1, 3, 6, 18]) (by kernel_rfl) (by simp) ?_
    refine AllReadyH.cons (o := _) rfl (fun K hK => ?_) ?_
    · ((try simp only [List.getElem_toArray, List.getElem_cons_succ, List.getElem_cons_zero]); go_simp; obtain ⟨bA, hnm, hNew⟩ := hHeld.newA'; rw [← hnm]; generalize hwn : World.alloc _ _ = wn at hNew ⊢; refine hK.out _ _ hNew.dropA (fun _ => ?_); clear hK K hHeld hwn hnm; have hHeld := hNew; clear hNew; refine anyH_more (S' := RG w g c A L d s b m (some bA) none none) (fun _ hx => hx.dropA) _ _ _ _ ?_; (try simp only [List.getElem_toArray, List.getElem_cons_succ, List.getElem_cons_zero, Act.put, List.setIfInBounds_toArray, List.set_cons_zero, List.set_cons_succ]); refine anyH_listed (listed' := #[true, true, true, false, false, false, false, true, false, false, false, true, true, true, true, false, false, false, false, false]) (by decide +kernel) ?_; exact k1000 bA _ hHeld)
    refine AllReadyH.cons (o := _) rfl (fun K hK => ?_) ?_
    · ((try simp only [List.getElem_toArray, List.getElem_cons_succ, List.getElem_cons_zero]); go_simp; go_at_call 28; refine (HN.out _ 3 (by omega) (by omega) hHeld.dice).mono ?_; rintro e wcx ⟨r1, rfl, hr1, kk, hdd, hRR⟩; have hHeld := hHeld.roll hdd hRR; clear hdd hRR; have hn1 : r1 < 3 := (by omega); have hz1 : (0 : Int) ≤ (r1 : Int) := (by omega); have hl1 : (r1 : Int) < 3 := (by omega); refine hK.out _ _ hHeld (fun hHeld => ?_); clear hK K; (try simp only [List.getElem_toArray, List.getElem_cons_succ, List.getElem_cons_zero, Act.put, List.setIfInBounds_toArray, List.set_cons_zero, List.set_cons_succ]); refine anyH_listed (listed' := #[true, false, true, true, false, false, false, true, false, false, false, true, true, true, true, false, false, false, false, false]) (by decide +kernel) ?_; exact k0001 r1 _ hn1 hHeld)
    refine AllReadyH.cons (o := _) rfl (fun K hK => ?_) ?_
    · ((try simp only [List.getElem_toArray, List.getElem_cons_succ, List.getElem_cons_zero]); go_simp; obtain ⟨bB, hnm, hNew⟩ := hHeld.newB'; rw [← hnm]; generalize hwn : World.alloc _ _ = wn at hNew ⊢; refine hK.out _ _ hNew.dropB (fun _ => ?_); clear hK K hHeld hwn hnm; have hHeld := hNew; clear hNew; refine anyH_more (S' := RG w g c A L d s b m none (some bB) none) (fun _ hx => hx.dropB) _ _ _ _ ?_; (try simp only [List.getElem_toArray, List.getElem_cons_succ, List.getElem_cons_zero, Act.put, List.setIfInBounds_toArray, List.set_cons_zero, List.set_cons_succ]); refine anyH_listed (listed' := #[true, false, true, false, false, false, true, true, false, false, false, true, true, true, true, false, false, false, false, false]) (by decide +kernel) ?_; exact k0100 bB _ hHeld)
    refine AllReadyH.cons (o := _) rfl (fun K hK => ?_) AllReadyH.nil
    ((try simp only [List.getElem_toArray, List.getElem_cons_succ, List.getElem_cons_zero]); go_simp; obtain ⟨bD, hnm, hNew⟩ := hHeld.newD'; rw [← hnm]; generalize hwn : World.alloc _ _ = wn at hNew ⊢; refine hK.out _ _ hNew.dropD (fun _ => ?_); clear hK K hHeld hwn hnm; have hHeld := hNew; clear hNew; refine anyH_more (S' := RG w g c A L d s b m none none (some bD)) (fun _ hx => hx.dropD) _ _ _ _ ?_; (try simp only [List.getElem_toArray, List.getElem_cons_succ, List.getElem_cons_zero, Act.put, List.setIfInBounds_toArray, List.set_cons_zero, List.set_cons_succ]); refine anyH_listed (listed' := #[true, false, true, false, false, false, false, true, false, false, false, true, true, true, true, false, false, false, true, false]) (by decide +kernel) ?_; exact k0010 bD _ hHeld)
  case rest =>
    obtain ⟨CB, k1, k2, len, rfl, HFC, HC⟩ := hcut
    go_wp2_with fail
    refine (HS.out _ HC.out.dice).mono ?_
    rintro e w2 ⟨S1, rfl, hS1, kk, hd, hR⟩
    have HC2 := hid (HC.out.roll hd hR)
    have HS1 := hid hS1
    clear hd hR HC hS1
    have hal := HC2.out.alloc (.cells #[.int .i64 S1] 3)
    have hk9 := hal.k
    unfold cArr at hk9
    try dsimp only at hk9
    obtain ⟨y0, y1, y2, y3, y4, y5, y6, y7, y8⟩ := hk9.cells
    have f4 := hal.k.free 4
    have HC3 : Hid (CC w g c A L d s b m CB ⟨code, courseS k1, partS k2, len, [S1], 0, [], [], []⟩ ⟨some ⟨w2.heap.size, 0, none⟩, 1, none, 0, none, 0, none, 0⟩ ((w2.alloc (.cells #[.int .i64 S1] 3)).setCell ⟨CB, 4, none⟩ (.slice (some ⟨w2.heap.size, 0, none⟩) 1 1))) := hid (hal.store 4 _ rfl (World.ownsRow_lit w2 #[.int .i64 S1] 1 HC2.out.size (by unfold maxLen; omega) rfl) hal.f hal.t hal.st)
    obtain ⟨w3, hw3⟩ : ∃ W, (w2.alloc (.cells #[.int .i64 S1] 3)).setCell ⟨CB, 4, none⟩ (.slice (some ⟨w2.heap.size, 0, none⟩) 1 1) = W := ⟨_, rfl⟩
    have HW3 := hid hw3
    rw [hw3] at HC3
    generalize Array.size w2.heap = B1 at HC3
    clear hal hw3 hk9
    go_wp2_with fail
    (try rw [HW3.out])
    refine (HS.out w3 HC3.out.dice).mono ?_
    rintro e w4 ⟨S2, rfl, hS2, kk, hd, hR⟩
    have HC4 := hid (HC3.out.roll hd hR)
    have HS2 := hid hS2
    clear hd hR HC3 hS2 HC2 HW3 y0 y1 y2 y3 y4 y5 y6 y7 y8 f4
    go_upto_region 4 with fail
    go_cut [49] (fun v wx => ∃ r : Bool, v = .bool r ∧ Hid (r = true → S2 ≠ S1) ∧ Hid (CC w g c A L d s b m CB ⟨code, courseS k1, partS k2, len, [S1], 0, [], [], []⟩ ⟨some ⟨B1, 0, none⟩, 1, none, 0, none, 0, none, 0⟩ wx))
    case first =>
      have hk9 := HC4.out.k
      unfold cArr at hk9
      try dsimp only at hk9
      obtain ⟨y0, y1, y2, y3, y4, y5, y6, y7, y8⟩ := hk9.cells
      have e0 : w4.cell? ⟨B1, 0, none⟩ = some (.int .i64 S1) := by
        have := World.ownsRow.cells HC4.out.p (g := B1) rfl 0 _ rfl
        rwa [Addr.add_lit] at this
      by_cases heq : S2 = S1
      · have hb : (S2 != S1) = false := by simp [heq]
        go_wp2_with fail
        go_meet
        exact ⟨false, rfl, hid (fun h => by cases h), HC4⟩
      · have hb : (S2 != S1) = true := by simp [heq]
        have HEQ := hid heq
        clear heq
        go_wp2_with fail
        refine (HO.out _ 3 (by omega) (by omega) HC4.out.dice).mono ?_
        rintro e w5 ⟨r, rfl, kk, hd, hR⟩
        have HC5 := hid (HC4.out.roll hd hR)
        clear hd hR
        go_wp2_with fail
        go_meet
        exact ⟨r, rfl, hid (fun _ => HEQ.out), HC5⟩
    case rest =>
      obtain ⟨r, rfl, HNE, HC5⟩ := hcut
      clear HC4
      go_upto_if 49 with fail
      go_cut [9] (fun pv wx => pv = .pointer (some ⟨CB, 0, none⟩) ∧ ∃ (pats : List Int) (aP : Option Addr) (cP : Nat), Hid (pats ≠ [] ∧ pats.length ≤ 2 ∧ pats.Nodup ∧ ∀ p ∈ pats, 1 ≤ p ∧ p < 2 ^ n) ∧ Hid (CC w g c A L d s b m CB ⟨code, courseS k1, partS k2, len, pats, 0, [], [], []⟩ ⟨aP, cP, none, 0, none, 0, none, 0⟩ wx))
      case first =>
        cases r with
        | false =>
          go_wp2_with fail
          go_meet
          refine ⟨rfl, [S1], _, _, hid ⟨by simp, by simp, by simp, fun p hp => ?_⟩, HC5⟩
          rw [List.mem_singleton] at hp
          subst hp
          exact HS1.out
        | true =>
          have hk9 := HC5.out.k
          unfold cArr at hk9
          try dsimp only at hk9
          obtain ⟨y0, y1, y2, y3, y4, y5, y6, y7, y8⟩ := hk9.cells
          have f4 := (HC5.out.alloc (.cells #[.int .i64 S2] 3)).k.free 4
          have HMX : Hid (1 + 1 ≤ maxLen) := by unfold maxLen; exact hid (by omega)
          have HBY : Hid ((1 + 1) * 8 ≤ 140737488355328) := hid (by omega)
          have HSZ : Hid (∀ o : Obj, w.heap.size + 2 ≤ (wc.alloc o).heap.size) := hid (fun o => by have := HC5.out.size; simp; omega)
          go_wp2_with (at_builtin; refine wpList_append_own _ rfl _ _ 44 rfl (w.heap.size + 2) 3 i3 (.int .i64 0) 1 8 Tryz.underlying44 hi3 hz3 hsi3 hby3 rfl (by decide) _ 1 [.int .i64 S1] rfl (World.ownsRow.alloc HC5.out.p _) ⟨wc.heap.size, 0, none⟩ 1 1 [.int .i64 S2] rfl rfl (one_new _ _ _) (one_one _ _) HMX.out HBY.out (HSZ.out _) ?_)
          intro v' w6 hown' hgrow _
          have hg' := grownBy_of_alloc hgrow
          obtain ⟨A6, c6, rfl⟩ := S3.row_slice hown'
          obtain ⟨hg1, hg2, hg3, hg4⟩ := HC5.out.grew hg' (fun k hk => (World.ownsRow.lt HC5.out.p k hk).1) (kind_ne HC5.out.p HC5.out.k.h (by decide))
          have HC6 : Hid (CC w g c A L d s b m CB ⟨code, courseS k1, partS k2, len, [S1, S2], 0, [], [], []⟩ ⟨A6, c6, none, 0, none, 0, none, 0⟩ (w6.setCell ⟨CB, 4, none⟩ (.slice A6 2 c6))) := hid (HC5.out.appP (l' := [S1, S2]) hg' hown')
          unfold cArr at hg3
          dsimp only at hg3
          clear y0 y1 y2 y3 y4 y5 y6 y7 y8 f4
          obtain ⟨y0, y1, y2, y3, y4, y5, y6, y7, y8⟩ := hg3.cells
          have f4 := hg3.free 4
          have HPT : Hid ([S1, S2] ≠ [] ∧ [S1, S2].length ≤ 2 ∧ [S1, S2].Nodup ∧ ∀ p ∈ [S1, S2], 1 ≤ p ∧ p < 2 ^ n) := hid ⟨by simp, by simp, by have := HNE.out (by first | rfl | trivial); simp; omega, fun p hp => by
            rcases List.mem_cons.1 hp with rfl | hp
            · exact HS1.out
            · rw [List.mem_singleton] at hp
              subst hp
              exact HS2.out⟩
          clear hown' hgrow hg' hg1 hg2 hg3 hg4 HMX HBY HSZ
          go_wp2_with fail
          go_meet
          exact ⟨rfl, [S1, S2], A6, c6, HPT, HC6⟩
      case rest =>
        obtain ⟨rfl, pats, aP, cP, HPT, HC6⟩ := hcut
        clear HC5 HNE HS1 HS2
        obtain ⟨PN, hPN⟩ : ∃ N, pats.length = N := ⟨_, rfl⟩
        go_wp2_with fail
        refine (HO.out _ 3 (by omega) (by omega) HC6.out.dice).mono ?_
        rintro e w7 ⟨r, rfl, kk, hd, hR⟩
        have HC7 := hid (HC6.out.roll hd hR)
        clear hd hR HC6
        go_upto_if 58 with fail
        go_cut [9] (fun pv wx => pv = .pointer (some ⟨CB, 0, none⟩) ∧ ∃ (seats : Int), Hid (seats = 0 ∨ seats = 10 ∨ seats = 20 ∨ seats = 30) ∧ Hid (CC w g c A L d s b m CB ⟨code, courseS k1, partS k2, len, pats, seats, [], [], []⟩ ⟨aP, cP, none, 0, none, 0, none, 0⟩ wx))
        case first =>
          cases r with
          | true =>
            go_wp2_with fail
            go_meet
            exact ⟨rfl, 0, hid (.inl rfl), HC7⟩
          | false =>
            go_wp2_with fail
            refine (HN.out _ 3 (by omega) (by omega) HC7.out.dice).mono ?_
            rintro e w8 ⟨r8, rfl, hr8, kk, hd, hR⟩
            have HC8 := hid (HC7.out.roll hd hR)
            have q1 : IntKind.i64.wrap (10 * (r8 : Int)) = 10 * (r8 : Int) := IntWalk.i64_in _ (by omega)
            have q2 : IntKind.i64.wrap (10 + 10 * (r8 : Int)) = 10 + 10 * (r8 : Int) := IntWalk.i64_in _ (by omega)
            have HC9 : Hid (CC w g c A L d s b m CB ⟨code, courseS k1, partS k2, len, pats, (10 + 10 * (r8 : Int)), [], [], []⟩ ⟨aP, cP, none, 0, none, 0, none, 0⟩ (w8.setCell ⟨CB, 5, none⟩ (.int .i64 (10 + 10 * (r8 : Int))))) := hid (HC8.out.store 5 _ rfl HC8.out.p HC8.out.f HC8.out.t HC8.out.st)
            have HSE : Hid (10 + 10 * (r8 : Int) = 0 ∨ 10 + 10 * (r8 : Int) = 10 ∨ 10 + 10 * (r8 : Int) = 20 ∨ 10 + 10 * (r8 : Int) = 30) := hid (by omega)
            have hk9 := HC8.out.k
            unfold cArr at hk9
            try dsimp only at hk9
            obtain ⟨y0, y1, y2, y3, y4, y5, y6, y7, y8⟩ := hk9.cells
            have f5 := HC8.out.k.free 5
            clear hd hR hk9
            go_wp2_with fail
            go_meet
            exact ⟨rfl, _, HSE, HC9⟩
        case rest =>
          obtain ⟨rfl, seats, HSE, HC8⟩ := hcut
          clear HC7
          go_wp2_with fail
          refine (HO.out _ 4 (by omega) (by omega) HC8.out.dice).mono ?_
          rintro e w9 ⟨r, rfl, kk, hd, hR⟩
          have HC9 := hid (HC8.out.roll hd hR)
          clear hd hR HC8
          go_upto_if 65 with fail
          go_cut [9] (fun pv wx => pv = .pointer (some ⟨CB, 0, none⟩) ∧ ∃ (feats : List Str) (aF : Option Addr) (cF : Nat), Hid (feats.Sublist featureS) ∧ Hid (CC w g c A L d s b m CB ⟨code, courseS k1, partS k2, len, pats, seats, feats, [], []⟩ ⟨aP, cP, aF, cF, none, 0, none, 0⟩ wx))
          case first =>
            cases r with
            | false =>
              go_wp2_with fail
              go_meet
              exact ⟨rfl, [], none, 0, hid (List.nil_sublist _), HC9⟩
            | true =>
              obtain ⟨hft, hfl⟩ := HF.out _ _ _ _ HC9.out
              have cM := hid (HM.out _ HC9.out.dice hft hfl)
              have z0 := hft.c0
              clear hft hfl
              go_wp2_with fail
              refine cM.out.mono ?_
              rintro e wa ⟨ss, Ar, cr, rfl, hsub, hrow, kk, he⟩
              have HCa := hid (HC9.out.played he)
              have HSB := hid hsub
              have HCb : Hid (CC w g c A L d s b m CB ⟨code, courseS k1, partS k2, len, pats, seats, ss, [], []⟩ ⟨aP, cP, Ar, cr, none, 0, none, 0⟩ (wa.setCell ⟨CB, 6, none⟩ (.slice Ar ss.length cr))) := hid (HCa.out.store 6 _ rfl HCa.out.p (rowLow hrow HC9.out.size) HCa.out.t HCa.out.st)
              clear he hsub hrow z0
              have hk9 := HCa.out.k
              unfold cArr at hk9
              try dsimp only at hk9
              obtain ⟨y0, y1, y2, y3, y4, y5, y6, y7, y8⟩ := hk9.cells
              have f6 := HCa.out.k.free 6
              clear hk9
              go_wp2_with fail
              go_meet
              exact ⟨rfl, ss, Ar, cr, HSB, HCb⟩
          case rest =>
            obtain ⟨rfl, feats, aF, cF, HFT, HCb⟩ := hcut
            clear HC9
            have hk9 := HCb.out.k
            unfold cArr at hk9
            try dsimp only at hk9
            obtain ⟨y0, y1, y2, y3, y4, y5, y6, y7, y8⟩ := hk9.cells
            have f7 := HCb.out.k.free 7
            have HCc : Hid (CC w g c A L d s b m CB ⟨code, courseS k1, partS k2, len, pats, seats, feats, [], []⟩ ⟨aP, cP, aF, cF, none, 0, none, 0⟩ (wc.setCell ⟨CB, 7, none⟩ (.slice none 0 0))) := hid (HCb.out.store 7 _ rfl HCb.out.p HCb.out.f HCb.out.t HCb.out.st)
            clear hk9 HCb
            go_wp2_with fail
            generalize World.setCell _ _ _ = wd at HCc ⊢
            refine (HN.out _ 3 (by omega) (by omega) HCc.out.dice).mono ?_
            rintro e we ⟨r9, rfl, hr9, kk, hd, hR⟩
            have HCd := hid (HCc.out.roll hd hR)
            have q1 : IntKind.i64.wrap (1 + (r9 : Int)) = ((1 + r9 : Nat) : Int) := by rw [IntWalk.i64_in _ (by omega)]; omega
            have hn9 : 1 + r9 ≤ 3 := by omega
            clear hd hR HCc y0 y1 y2 y3 y4 y5 y6 y7 y8 f7
            go_upto_block 0 with fail
            go_cut [9] (fun pv wx => pv = .pointer (some ⟨CB, 0, none⟩) ∧ ∃ (st : List StartD) (aT : Option Addr) (cT : Nat), Hid (st.length ≤ 3 ∧ st.Pairwise (fun a b => a.1 < b.1) ∧ ∀ t ∈ st, (0 ≤ t.1 ∧ t.1 < d) ∧ 0 ≤ t.2 ∧ t.2 + len ≤ s) ∧ Hid (CC w g c A L d s b m CB ⟨code, courseS k1, partS k2, len, pats, seats, feats, [], st⟩ ⟨aP, cP, aF, cF, none, 0, aT, cT⟩ wx))
            case first =>
              go_wp2
              go_loopw [11, 12] (fun dv nv wr => ∃ (day : Int) (qn : Nat) (st : List StartD) (aT : Option Addr) (cT : Nat), dv = .int .i64 day ∧ nv = .int .i64 (qn : Int) ∧ qn + st.length ≤ 3 ∧ Hid ((0 ≤ day ∧ day ≤ d) ∧ StartsP d s len day st) ∧ Hid (CC w g c A L d s b m CB ⟨code, courseS k1, partS k2, len, pats, seats, feats, [], st⟩ ⟨aP, cP, aF, cF, none, 0, aT, cT⟩ wr)) (fun _ nv _ => (RowKit.intOf nv).toNat)
              case atStart => exact ⟨0, 1 + r9, [], none, 0, rfl, rfl, by simp; omega, hid ⟨⟨by omega, by omega⟩, ⟨List.Pairwise.nil, fun t ht => by cases ht⟩⟩, HCd⟩
              case round =>
                obtain ⟨day, qn, st, aT, cT, rfl, rfl, hq, HST, hCC⟩ := hrel
                clear HCd
                by_cases hz : 0 < qn
                · have hqz : (0 : Int) < (qn : Int) := by omega
                  have qm : IntKind.i64.wrap ((qn : Int) - 1) = (qn : Int) - 1 := IntWalk.i64_in _ (by omega)
                  have hdd := HST.out.1
                  go_upto_region 15 with fail
                  go_cut [13] (fun pv wx => ∃ (SB : Nat) (y u : Int), pv = .pointer (some ⟨SB, 0, none⟩) ∧ Hid ((day ≤ y ∧ y ≤ day + 1) ∧ 0 ≤ u ∧ u + len ≤ s) ∧ Hid (SGC w g c A L d s b m CB ⟨code, courseS k1, partS k2, len, pats, seats, feats, [], st⟩ ⟨aP, cP, aF, cF, none, 0, aT, cT⟩ (some SB) wx) ∧ Hid (wx.heap[SB]? = some (.cells #[.int .i64 y, .int .i64 u] 127 (0, 0))))
                  case first =>
                    have hk0 : SGC w g c A L d s b m CB ⟨code, courseS k1, partS k2, len, pats, seats, feats, [], st⟩ ⟨aP, cP, aF, cF, none, 0, aT, cT⟩ none wr := ⟨hCC.out, fun k e => (by cases e)⟩
                    have q1 : IntKind.i64.wrap (s - len) = s - len := IntWalk.i64_in _ (by have := HFC.out.2; omega)
                    have q2 : IntKind.i64.wrap (s - len + 1) = s - len + 1 := IntWalk.i64_in _ (by have := HFC.out.2; omega)
                    have hsl : 1 ≤ s - len + 1 ∧ s - len + 1 ≤ 4294967296 := by have := HFC.out.2; omega
                    have hlen := HFC.out.2
                    refine wp_region_held_drew (S := fun wx => SGC w g c A L d s b m CB ⟨code, courseS k1, partS k2, len, pats, seats, feats, [], st⟩ ⟨aP, cP, aF, cF, none, 0, aT, cT⟩ none wx) (by kernel_rfl) (hk0.next (Below.refl _ _).drew) (fun hHeld => ?_)
                    generalize wr.drew = wd at hHeld ⊢
                    clear hk0
                    (refine wpAnyH_take (i := 0) (oi := _) (v := ?_) rfl (by kernel_rfl) (by kernel_rfl) (by decide +kernel) (fun _ _ _ h => h) (Or.inl ⟨by rfl, ?_⟩) (by assumption) ?_; rotate_left; (intro wS hSw; skip; (try simp only [List.getElem_toArray, List.getElem_cons_zero]); go_simp; (try with_reducible rfl)))
                    (try simp only [List.getElem_toArray, List.getElem_cons_zero, Act.put, List.setIfInBounds_toArray, List.set_cons_zero, List.set_cons_succ])
                    (refine wpAnyH_take (i := 1) (oi := _) (v := ?_) rfl (by kernel_rfl) (by kernel_rfl) (by decide +kernel) (fun _ _ _ h => h) (Or.inl ⟨by rfl, ?_⟩) (by assumption) ?_; rotate_left; (intro wS hSw; skip; (try simp only [List.getElem_toArray, List.getElem_cons_succ, List.getElem_cons_zero]); go_simp; (try with_reducible rfl)))
                    (try simp only [List.getElem_toArray, List.getElem_cons_succ, List.getElem_cons_zero, Act.put, List.setIfInBounds_toArray, List.set_cons_zero, List.set_cons_succ])
                    (refine wpAnyH_take (i := 4) (oi := _) (v := ?_) rfl (by kernel_rfl) (by kernel_rfl) (by decide +kernel) (fun _ _ _ h => h) (Or.inl ⟨by rfl, ?_⟩) (by assumption) ?_; rotate_left; (intro wS hSw; skip; (try simp only [List.getElem_toArray, List.getElem_cons_succ, List.getElem_cons_zero]); go_simp; (try with_reducible rfl)))
                    (try simp only [List.getElem_toArray, List.getElem_cons_succ, List.getElem_cons_zero, Act.put, List.setIfInBounds_toArray, List.set_cons_zero, List.set_cons_succ])
                    (refine wpAnyH_take (i := 5) (oi := _) (v := ?_) rfl (by kernel_rfl) (by kernel_rfl) (by decide +kernel) (fun _ _ _ h => h) (Or.inl ⟨by rfl, ?_⟩) (by assumption) ?_; rotate_left; (intro wS hSw; skip; (try simp only [List.getElem_toArray, List.getElem_cons_succ, List.getElem_cons_zero]); go_simp; (try with_reducible rfl)))
                    (try simp only [List.getElem_toArray, List.getElem_cons_succ, List.getElem_cons_zero, Act.put, List.setIfInBounds_toArray, List.set_cons_zero, List.set_cons_succ])
                    (refine wpAnyH_take (i := 6) (oi := _) (v := ?_) rfl (by kernel_rfl) (by kernel_rfl) (by decide +kernel) (fun _ _ _ h => h) (Or.inl ⟨by rfl, ?_⟩) (by assumption) ?_; rotate_left; (intro wS hSw; have g1 := hSw.c.gr.box.c1; (try simp only [List.getElem_toArray, List.getElem_cons_succ, List.getElem_cons_zero]); go_simp; (try with_reducible rfl)))
                    (try simp only [List.getElem_toArray, List.getElem_cons_succ, List.getElem_cons_zero, Act.put, List.setIfInBounds_toArray, List.set_cons_zero, List.set_cons_succ])
                    (refine wpAnyH_take (i := 7) (oi := _) (v := ?_) rfl (by kernel_rfl) (by kernel_rfl) (by decide +kernel) (fun _ _ _ h => h) (Or.inl ⟨by rfl, ?_⟩) (by assumption) ?_; rotate_left; (intro wS hSw; skip; (try simp only [List.getElem_toArray, List.getElem_cons_succ, List.getElem_cons_zero]); go_simp; (try with_reducible rfl)))
                    (try simp only [List.getElem_toArray, List.getElem_cons_succ, List.getElem_cons_zero, Act.put, List.setIfInBounds_toArray, List.set_cons_zero, List.set_cons_succ])
                    (refine wpAnyH_take (i := 8) (oi := _) (v := ?_) rfl (by kernel_rfl) (by kernel_rfl) (by decide +kernel) (fun _ _ _ h => h) (Or.inl ⟨by rfl, ?_⟩) (by assumption) ?_; rotate_left; (intro wS hSw; have hk9 := hSw.c.k; unfold cArr at hk9; dsimp only at hk9; have y3 := hk9.cells.2.2.2.1; (try simp only [List.getElem_toArray, List.getElem_cons_succ, List.getElem_cons_zero]); go_simp; (try with_reducible rfl)))
                    (try simp only [List.getElem_toArray, List.getElem_cons_succ, List.getElem_cons_zero, Act.put, List.setIfInBounds_toArray, List.set_cons_zero, List.set_cons_succ])
                    (refine wpAnyH_take (i := 9) (oi := _) (v := ?_) rfl (by kernel_rfl) (by kernel_rfl) (by decide +kernel) (fun _ _ _ h => h) (Or.inl ⟨by rfl, ?_⟩) (by assumption) ?_; rotate_left; (intro wS hSw; skip; (try simp only [List.getElem_toArray, List.getElem_cons_succ, List.getElem_cons_zero]); go_simp; (try with_reducible rfl)))
                    (try simp only [List.getElem_toArray, List.getElem_cons_succ, List.getElem_cons_zero, Act.put, List.setIfInBounds_toArray, List.set_cons_zero, List.set_cons_succ])
                    (refine wpAnyH_take (i := 10) (oi := _) (v := ?_) rfl (by kernel_rfl) (by kernel_rfl) (by decide +kernel) (fun _ _ _ h => h) (Or.inl ⟨by rfl, ?_⟩) (by assumption) ?_; rotate_left; (intro wS hSw; skip; (try simp only [List.getElem_toArray, List.getElem_cons_succ, List.getElem_cons_zero]); go_simp; (try with_reducible rfl)))
                    (try simp only [List.getElem_toArray, List.getElem_cons_succ, List.getElem_cons_zero, Act.put, List.setIfInBounds_toArray, List.set_cons_zero, List.set_cons_succ])
                    all_goals first
                      | (refine wpAnyH_ready (rs := [2, 13]) (by decide +kernel) (by simp) ?_; (refine AllReadyH.cons (o := _) rfl (fun K hK => ?_) ?_; (focus ((try simp only [List.getElem_toArray, List.getElem_cons_succ, List.getElem_cons_zero]); go_simp; go_at_call 28; refine (HN.out _ 2 (by omega) (by omega) (SGC.dice hHeld)).mono ?_; rintro e wc1 ⟨r1, rfl, hr1, kk, hdd, hRR⟩; have hHeld := SGC.roll hHeld hdd hRR; clear hdd hRR; have hn1 : r1 < 2 := (by omega); have hq3 : IntKind.i64.wrap (day + (r1 : Int)) = day + (r1 : Int) := IntWalk.i64_in _ (by omega); refine hK.out _ _ hHeld (fun hHeld => ?_); clear hK K)); rotate_left; (refine AllReadyH.cons (o := _) rfl (fun K hK => ?_) AllReadyH.nil; (focus ((try simp only [List.getElem_toArray, List.getElem_cons_succ, List.getElem_cons_zero]); go_simp; obtain ⟨bD, hnm, hNew⟩ := SGC.newD' hHeld; rw [← hnm]; generalize hwn : World.alloc _ _ = wn at hNew ⊢; refine hK.out _ _ (SGC.dropD hNew) (fun _ => ?_); clear hK K hHeld hwn hnm; have hHeld := hNew; clear hNew; refine anyH_more (S' := fun wx => SGC w g c A L d s b m CB ⟨code, courseS k1, partS k2, len, pats, seats, feats, [], st⟩ ⟨aP, cP, aF, cF, none, 0, aT, cT⟩ (some bD) wx) (fun _ hx => hx.dropD) _ _ _ _ ?_)))); all_goals (try simp only [List.getElem_toArray, List.getElem_cons_succ, List.getElem_cons_zero, Act.put, List.setIfInBounds_toArray, List.set_cons_zero, List.set_cons_succ]))
                    all_goals
                      try ((refine wpAnyH_take (i := 3) (oi := _) (v := ?_) rfl (by kernel_rfl) (by kernel_rfl) (by decide +kernel) (fun _ _ _ h => h) (Or.inl ⟨by rfl, ?_⟩) (by assumption) ?_; rotate_left; (intro wS hSw; skip; (try simp only [List.getElem_toArray, List.getElem_cons_succ, List.getElem_cons_zero]); go_simp; (try with_reducible rfl))); (try simp only [List.getElem_toArray, List.getElem_cons_succ, List.getElem_cons_zero, Act.put, List.setIfInBounds_toArray, List.set_cons_zero, List.set_cons_succ]))
                    all_goals first
                      | (refine wpAnyH_ready (rs := [11, 13]) (by decide +kernel) (by simp) ?_; (refine AllReadyH.cons (o := _) rfl (fun K hK => ?_) ?_; (focus ((try simp only [List.getElem_toArray, List.getElem_cons_succ, List.getElem_cons_zero]); go_simp; go_at_call 28; refine (HN.out _ _ hsl.1 hsl.2 (SGC.dice hHeld)).mono ?_; rintro e wc2 ⟨r2, rfl, hr2, kk, hdd, hRR⟩; have hHeld := SGC.roll hHeld hdd hRR; clear hdd hRR; skip; refine hK.out _ _ hHeld (fun hHeld => ?_); clear hK K)); rotate_left; (refine AllReadyH.cons (o := _) rfl (fun K hK => ?_) AllReadyH.nil; (focus ((try simp only [List.getElem_toArray, List.getElem_cons_succ, List.getElem_cons_zero]); go_simp; obtain ⟨bD, hnm, hNew⟩ := SGC.newD' hHeld; rw [← hnm]; generalize hwn : World.alloc _ _ = wn at hNew ⊢; refine hK.out _ _ (SGC.dropD hNew) (fun _ => ?_); clear hK K hHeld hwn hnm; have hHeld := hNew; clear hNew; refine anyH_more (S' := fun wx => SGC w g c A L d s b m CB ⟨code, courseS k1, partS k2, len, pats, seats, feats, [], st⟩ ⟨aP, cP, aF, cF, none, 0, aT, cT⟩ (some bD) wx) (fun _ hx => hx.dropD) _ _ _ _ ?_)))); all_goals (try simp only [List.getElem_toArray, List.getElem_cons_succ, List.getElem_cons_zero, Act.put, List.setIfInBounds_toArray, List.set_cons_zero, List.set_cons_succ]))
                      | (refine wpAnyH_ready (rs := [2]) (by decide +kernel) (by simp) ?_; (refine AllReadyH.cons (o := _) rfl (fun K hK => ?_) AllReadyH.nil; (focus ((try simp only [List.getElem_toArray, List.getElem_cons_succ, List.getElem_cons_zero]); go_simp; go_at_call 28; refine (HN.out _ 2 (by omega) (by omega) (SGC.dice hHeld)).mono ?_; rintro e wc1 ⟨r1, rfl, hr1, kk, hdd, hRR⟩; have hHeld := SGC.roll hHeld hdd hRR; clear hdd hRR; have hn1 : r1 < 2 := (by omega); have hq3 : IntKind.i64.wrap (day + (r1 : Int)) = day + (r1 : Int) := IntWalk.i64_in _ (by omega); refine hK.out _ _ hHeld (fun hHeld => ?_); clear hK K))); all_goals (try simp only [List.getElem_toArray, List.getElem_cons_succ, List.getElem_cons_zero, Act.put, List.setIfInBounds_toArray, List.set_cons_zero, List.set_cons_succ]))
                    all_goals
                      try ((refine wpAnyH_take (i := 3) (oi := _) (v := ?_) rfl (by kernel_rfl) (by kernel_rfl) (by decide +kernel) (fun _ _ _ h => h) (Or.inl ⟨by rfl, ?_⟩) (by assumption) ?_; rotate_left; (intro wS hSw; skip; (try simp only [List.getElem_toArray, List.getElem_cons_succ, List.getElem_cons_zero]); go_simp; (try with_reducible rfl))); (try simp only [List.getElem_toArray, List.getElem_cons_succ, List.getElem_cons_zero, Act.put, List.setIfInBounds_toArray, List.set_cons_zero, List.set_cons_succ]))
                      try ((refine wpAnyH_take (i := 12) (oi := _) (v := ?_) rfl (by kernel_rfl) (by kernel_rfl) (by decide +kernel) (fun _ _ _ h => h) (Or.inl ⟨by rfl, ?_⟩) (by assumption) ?_; rotate_left; (intro wS hSw; skip; (try simp only [List.getElem_toArray, List.getElem_cons_succ, List.getElem_cons_zero]); go_simp; (try with_reducible rfl))); (try simp only [List.getElem_toArray, List.getElem_cons_succ, List.getElem_cons_zero, Act.put, List.setIfInBounds_toArray, List.set_cons_zero, List.set_cons_succ]))
                    all_goals first
                      | (refine wpAnyH_ready (rs := [13]) (by decide +kernel) (by simp) ?_; (refine AllReadyH.cons (o := _) rfl (fun K hK => ?_) AllReadyH.nil; (focus ((try simp only [List.getElem_toArray, List.getElem_cons_succ, List.getElem_cons_zero]); go_simp; obtain ⟨bD, hnm, hNew⟩ := SGC.newD' hHeld; rw [← hnm]; generalize hwn : World.alloc _ _ = wn at hNew ⊢; refine hK.out _ _ (SGC.dropD hNew) (fun _ => ?_); clear hK K hHeld hwn hnm; have hHeld := hNew; clear hNew; refine anyH_more (S' := fun wx => SGC w g c A L d s b m CB ⟨code, courseS k1, partS k2, len, pats, seats, feats, [], st⟩ ⟨aP, cP, aF, cF, none, 0, aT, cT⟩ (some bD) wx) (fun _ hx => hx.dropD) _ _ _ _ ?_))); all_goals (try simp only [List.getElem_toArray, List.getElem_cons_succ, List.getElem_cons_zero, Act.put, List.setIfInBounds_toArray, List.set_cons_zero, List.set_cons_succ]))
                      | (refine wpAnyH_ready (rs := [11]) (by decide +kernel) (by simp) ?_; (refine AllReadyH.cons (o := _) rfl (fun K hK => ?_) AllReadyH.nil; (focus ((try simp only [List.getElem_toArray, List.getElem_cons_succ, List.getElem_cons_zero]); go_simp; go_at_call 28; refine (HN.out _ _ hsl.1 hsl.2 (SGC.dice hHeld)).mono ?_; rintro e wc2 ⟨r2, rfl, hr2, kk, hdd, hRR⟩; have hHeld := SGC.roll hHeld hdd hRR; clear hdd hRR; skip; refine hK.out _ _ hHeld (fun hHeld => ?_); clear hK K))); all_goals (try simp only [List.getElem_toArray, List.getElem_cons_succ, List.getElem_cons_zero, Act.put, List.setIfInBounds_toArray, List.set_cons_zero, List.set_cons_succ]))
                    all_goals
                      try ((refine wpAnyH_take (i := 3) (oi := _) (v := ?_) rfl (by kernel_rfl) (by kernel_rfl) (by decide +kernel) (fun _ _ _ h => h) (Or.inl ⟨by rfl, ?_⟩) (by assumption) ?_; rotate_left; (intro wS hSw; skip; (try simp only [List.getElem_toArray, List.getElem_cons_succ, List.getElem_cons_zero]); go_simp; (try with_reducible rfl))); (try simp only [List.getElem_toArray, List.getElem_cons_succ, List.getElem_cons_zero, Act.put, List.setIfInBounds_toArray, List.set_cons_zero, List.set_cons_succ]))
                      try ((refine wpAnyH_take (i := 12) (oi := _) (v := ?_) rfl (by kernel_rfl) (by kernel_rfl) (by decide +kernel) (fun _ _ _ h => h) (Or.inl ⟨by rfl, ?_⟩) (by assumption) ?_; rotate_left; (intro wS hSw; skip; (try simp only [List.getElem_toArray, List.getElem_cons_succ, List.getElem_cons_zero]); go_simp; (try with_reducible rfl))); (try simp only [List.getElem_toArray, List.getElem_cons_succ, List.getElem_cons_zero, Act.put, List.setIfInBounds_toArray, List.set_cons_zero, List.set_cons_succ]))
                      obtain ⟨hkb, hkc, hkt, u0, u1, hD⟩ := SGC.n hHeld _ rfl
                      have f0 := cells_free hD 0
                      have f1 := cells_free hD 1
                      have e0 := Lib.cell_of_heap hD (j := 0)
                      have e1 := Lib.cell_of_heap hD (j := 1)
                      (refine wpAnyH_ready (rs := [14]) (by decide +kernel) (by simp) ?_; refine AllReadyH.cons (o := _) rfl (fun K hK => ?_) AllReadyH.nil; (try simp only [List.getElem_toArray, List.getElem_cons_succ, List.getElem_cons_zero]); go_simp)
                      obtain ⟨hSG, hSB⟩ := SGC.stored hHeld (day + (r1 : Int)) (r2 : Int)
                      refine hK.out _ _ hSG (fun _ => ?_)
                      clear hK K
                      (try simp only [List.getElem_toArray, List.getElem_cons_succ, List.getElem_cons_zero, Act.put, List.setIfInBounds_toArray, List.set_cons_zero, List.set_cons_succ])
                      refine wpAnyH_done (by kernel_rfl) ?_ _
                      go_wp2_with fail
                      go_meet
                      exact ⟨bD, day + (r1 : Int), (r2 : Int), rfl, hid ⟨⟨by omega, by omega⟩, by omega, by omega⟩, hid hSG, hid hSB⟩
                  case rest =>
                    obtain ⟨SB, y, u, rfl, HYU, HSG, HSB⟩ := hcut
                    clear hCC
                    have s0 : wc.cell? ⟨SB, 0, none⟩ = some (.int .i64 y) := by rw [Lib.cell_of_heap HSB.out]; rfl
                    have s1 : wc.cell? ⟨SB, 1, none⟩ = some (.int .i64 u) := by rw [Lib.cell_of_heap HSB.out]; rfl
                    obtain ⟨g0, g1, g2, g3, _⟩ := HSG.out.c.gr.box
                    by_cases hyd : d ≤ y
                    · have HCT := hid HSG.out.c
                      clear HSG HSB
                      have HSO : Hid (st.length ≤ 3 ∧ st.Pairwise (fun a b => a.1 < b.1) ∧ ∀ t ∈ st, (0 ≤ t.1 ∧ t.1 < d) ∧ 0 ≤ t.2 ∧ t.2 + len ≤ s) := hid ⟨by omega, HST.out.2.up, fun t ht => (HST.out.2.ok t ht).1⟩
                      go_wp2_with fail
                      go_meet
                      exact ⟨rfl, st, aT, cT, HSO, HCT⟩
                    · have hyn : ¬ d ≤ y := hyd
                      have hyl : y < d := by omega
                      have hyu := HYU.out
                      have q5 : IntKind.i64.wrap (y + 1) = y + 1 := IntWalk.i64_in _ (by omega)
                      have HCc := hid HSG.out.c
                      obtain ⟨hb1, hb2, hb3, -, -, -⟩ := HSG.out.n SB rfl
                      have hk9 := HCc.out.k
                      unfold cArr at hk9
                      try dsimp only at hk9
                      obtain ⟨y0, y1, y2, y3, y4, y5, y6, y7, y8⟩ := hk9.cells
                      have HMX : Hid (st.length + 1 ≤ maxLen) := by unfold maxLen; exact hid (by omega)
                      have HBY : Hid ((st.length + 1) * 16 ≤ 140737488355328) := hid (by omega)
                      have HSZ : Hid (∀ o : Obj, w.heap.size + 2 ≤ (wc.alloc o).heap.size) := hid (fun o => by have := HCc.out.size; simp; omega)
                      clear hk9
                      go_wp2_with (at_builtin; refine wpList_append_own _ rfl _ _ 93 rfl (w.heap.size + 2) 127 i9 (.agg #[.int .i64 0, .int .i64 0]) 2 16 Tryz.underlying93 hi9 hz9 hsi9 hby9 rfl (by decide) _ st.length (startVals st) rfl (World.ownsRow.alloc HCc.out.t _) ⟨wc.heap.size, 0, none⟩ 1 1 (startVals [(y, u)]) rfl rfl (sNew _ _ _) (startVals_one _) HMX.out HBY.out (HSZ.out _) ?_)
                      intro v' w6 hown' hgrow _
                      have hg' := grownBy_of_alloc hgrow
                      obtain ⟨A6, c6, rfl⟩ := S3.row_slice hown'
                      obtain ⟨hg1, hg2, hg3, hg4⟩ := HCc.out.grew hg' (fun k hk => (World.ownsRow.lt HCc.out.t k hk).1) (kind_ne HCc.out.t HCc.out.k.h (by decide))
                      have hown2 : w6.ownsRow (w.heap.size + 2) 127 2 (.slice A6 (st ++ [(y, u)]).length c6) (st ++ [(y, u)]).length (startVals (st ++ [(y, u)])) := by
                        rw [startVals_app, List.length_append]
                        exact hown'
                      have HC6 : Hid (CC w g c A L d s b m CB ⟨code, courseS k1, partS k2, len, pats, seats, feats, [], (st ++ [(y, u)])⟩ ⟨aP, cP, aF, cF, none, 0, A6, c6⟩ (w6.setCell ⟨CB, 8, none⟩ (.slice A6 (st.length + 1) c6))) := hid (by
                        have h := HCc.out.appT (l' := st ++ [(y, u)]) hg' hown2
                        rw [List.length_append] at h
                        exact h)
                      have hsb6 : w6.heap[SB]? = wc.heap[SB]? := hg'.block SB (Array.getElem?_eq_some_iff.1 HSB.out).1 (fun e => hb3 e.symm)
                      have s0' : (w6.setCell ⟨CB, 8, none⟩ (.slice A6 (st.length + 1) c6)).cell? ⟨SB, 0, none⟩ = some (.int .i64 y) := by
                        refine (World.cell?_of_block (w := w6) (Below.heap_setCell w6 ⟨CB, 8, none⟩ _ SB (by show SB ≠ CB; exact hb2))).trans ?_
                        exact (World.cell?_of_block (w := wc) hsb6).trans s0
                      unfold cArr at hg3
                      dsimp only at hg3
                      clear y0 y1 y2 y3 y4 y5 y6 y7 y8
                      obtain ⟨y0, y1, y2, y3, y4, y5, y6, y7, y8⟩ := hg3.cells
                      have f8 := hg3.free 8
                      have HN2 : Hid ((0 ≤ y + 1 ∧ y + 1 ≤ d) ∧ StartsP d s len (y + 1) (st ++ [(y, u)])) := hid ⟨⟨by omega, by omega⟩, HST.out.2.app (by omega) (by omega) hyl hyu.2⟩
                      clear hown' hgrow hg' hg1 hg2 hg3 hg4 HMX HBY HSZ hown2 hsb6 s0 s1 g0 g1 g2 g3 HCc HSG HSB hb1 hb2 hb3
                      go_wp2
                      go_roundw
                      case rel => exact ⟨y + 1, qn - 1, st ++ [(y, u)], A6, c6, rfl, by congr 1; omega, by simp; omega, HN2, hid (by have := HC6.out; simpa using this)⟩
                      case measure => simp [RowKit.intOf]; omega
                · have hqz : ¬ (0 : Int) < (qn : Int) := by omega
                  have HSO : Hid (st.length ≤ 3 ∧ st.Pairwise (fun a b => a.1 < b.1) ∧ ∀ t ∈ st, (0 ≤ t.1 ∧ t.1 < d) ∧ 0 ≤ t.2 ∧ t.2 + len ≤ s) := hid ⟨by omega, HST.out.2.up, fun t ht => (HST.out.2.ok t ht).1⟩
                  go_wp2_with fail
                  go_meet
                  exact ⟨rfl, st, aT, cT, HSO, hCC⟩
            case rest =>
              obtain ⟨rfl, st, aT, cT, HSL, HCT⟩ := hcut
              clear HCd
              obtain ⟨TN, hTN⟩ : ∃ N, st.length = N := ⟨_, rfl⟩
              have HTN := hid hTN
              have hk9 := HCT.out.k
              unfold cArr at hk9
              try dsimp only at hk9
              obtain ⟨y0, y1, y2, y3, y4, y5, y6, y7, y8⟩ := hk9.cells
              rw [hTN] at y8
              obtain ⟨bb, hbb⟩ : ∃ bb, ((TN : Int) == 0) = bb := ⟨_, rfl⟩
              clear hk9 hTN y0 y1 y2 y3 y4 y5 y6 y7
              go_upto_if 108 with fail
              go_cut [9] (fun pv wx => pv = .pointer (some ⟨CB, 0, none⟩) ∧ ∃ (x : ClassD) (q : ClassA), Hid (ClassOk d s n [] code x) ∧ Hid (CC w g c A L d s b m CB x q wx))
              case first =>
                cases bb with
                | true =>
                  have q1 : IntKind.i64.wrap (s - len) = s - len := IntWalk.i64_in _ (by have := HFC.out.2; omega)
                  have q2 : IntKind.i64.wrap (s - len + 1) = s - len + 1 := IntWalk.i64_in _ (by have := HFC.out.2; omega)
                  have hsl : 1 ≤ s - len + 1 ∧ s - len + 1 ≤ 4294967296 := by have := HFC.out.2; omega
                  obtain ⟨g0, g1, g2, g3, _⟩ := HCT.out.gr.box
                  have hk9 := HCT.out.k
                  unfold cArr at hk9
                  try dsimp only at hk9
                  obtain ⟨y0, y1, y2, y3, y4, y5, y6, y7, y8⟩ := hk9.cells
                  clear hk9 y0 y1 y2 y4 y5 y6 y7 hbb
                  go_wp2_with fail
                  refine (HN.out _ (s - len + 1) hsl.1 hsl.2 HCT.out.dice).mono ?_
                  rintro e wf ⟨rf, rfl, hrf, kk, hd, hR⟩
                  have HCf := hid (HCT.out.roll hd hR)
                  clear hd hR y3 y8 g0 g1 g2 g3
                  have hal := HCf.out.alloc (.cells #[.int .i64 0, .int .i64 (rf : Int)] 127)
                  have hk9 := hal.k
                  unfold cArr at hk9
                  try dsimp only at hk9
                  obtain ⟨y0, y1, y2, y3, y4, y5, y6, y7, y8⟩ := hk9.cells
                  have f8 := hal.k.free 8
                  have HCg : Hid (CC w g c A L d s b m CB ⟨code, courseS k1, partS k2, len, pats, seats, feats, [], [(0, (rf : Int))]⟩ ⟨aP, cP, aF, cF, none, 0, some ⟨wf.heap.size, 0, none⟩, 1⟩ ((wf.alloc (.cells #[.int .i64 0, .int .i64 (rf : Int)] 127)).setCell ⟨CB, 8, none⟩ (.slice (some ⟨wf.heap.size, 0, none⟩) 1 1))) := hid (hal.store 8 _ rfl hal.p hal.f (World.ownsRow_lit wf #[.int .i64 0, .int .i64 (rf : Int)] 1 HCf.out.size (by unfold maxLen; omega) rfl) hal.st)
                  have HLS : Hid (0 ≤ (rf : Int) ∧ (rf : Int) + len ≤ s) := hid (by have := HFC.out.2; omega)
                  have HOK : Hid (ClassOk d s n [] code ⟨code, courseS k1, partS k2, len, pats, seats, feats, [], [(0, (rf : Int))]⟩) := hid ⟨rfl, ⟨k1, HFC.out.1.1, rfl⟩, ⟨k2, HFC.out.1.2, rfl⟩, HFC.out.2, HPT.out, HSE.out, HFT.out, List.nil_sublist _, by refine ⟨by simp, by simp, by simp, fun t ht => ?_⟩; rw [List.mem_singleton] at ht; subst ht; exact ⟨⟨by show (0 : Int) ≤ 0; omega, by show (0 : Int) < d; omega⟩, HLS.out.1, HLS.out.2⟩⟩
                  clear hal hk9 hrf hsl q1 q2 y0 y1 y2 y3 y4 y5 y6 y7
                  go_wp2_with fail
                  go_meet
                  exact ⟨rfl, _, _, HOK, HCg⟩
                | false =>
                  have HNE0 : Hid (st ≠ []) := hid (fun e => by rw [← HTN.out, e] at hbb; cases hbb)
                  have HOK : Hid (ClassOk d s n [] code ⟨code, courseS k1, partS k2, len, pats, seats, feats, [], st⟩) := hid ⟨rfl, ⟨k1, HFC.out.1.1, rfl⟩, ⟨k2, HFC.out.1.2, rfl⟩, HFC.out.2, HPT.out, HSE.out, HFT.out, List.nil_sublist _, ⟨HNE0.out, HSL.out.1, HSL.out.2.1, HSL.out.2.2⟩⟩
                  clear hbb y8
                  go_wp2_with fail
                  go_meet
                  exact ⟨rfl, _, _, HOK, HCT⟩
              case rest =>
                obtain ⟨rfl, x, q, HOK, HCX⟩ := hcut
                clear HCT HSL HTN hbb y8 HFC HPT HSE HFT
                obtain ⟨WF, hWF, hload, hcls, kf, hDE⟩ := HCX.out.doneR
                have HLD := hid hload
                have HCL := hid hcls
                have HDE := hid hDE
                have HWF := hid hWF
                have HR9 := hid HCX.out.r.h
                have hk9 := HCX.out.k
                unfold cArr at hk9
                try dsimp only at hk9
                obtain ⟨y0, y1, y2, y3, y4, y5, y6, y7, y8⟩ := hk9.cells
                clear hWF hload hcls hDE hk9 HCX
                go_wp2_with (refine wpList_store_row rfl 95 (.tmp 8) (.tmp 120) rfl (w.heap.size + 1) (cArr x q) rfl rfl 95 zeroArr HR9.out (by kernel_rfl) rfl (cArr_one x q) ?_)
                rw [HWF.out]
                refine bodyPost_ret (v := .agg (cArr x q)) (results_c rfl _ _ _ ⟨w.heap.size + 1, 0, none⟩ _ rfl HLD.out) rfl ?_
                exact ⟨x, q, kf, rfl, HOK.out, HCL.out, HDE.out⟩
end Go.Proofs.YtlgmanbilaminaaGreatDoor.S10
