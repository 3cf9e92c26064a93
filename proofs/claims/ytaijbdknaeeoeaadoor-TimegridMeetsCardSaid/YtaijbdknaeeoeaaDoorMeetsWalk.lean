/-
  The walk of TimegridMeets. Conditions: the numbers lie in memory as a slice of ints; the variables hold what their text lays.
-/
import Derived.Test.YtaijbdknaeeoeaaDoorRS
import Derived.Test.YtaijbdknaeeoeaaDoorMM
import Derived.Test.YtaijbdknaeeoeaaDoorG2
import Derived.Deep.RegionLaw
import Derived.Deep.DeepCutAuto
import Derived.Deep.CutBlock
set_option linter.unusedVariables false
set_option linter.unusedSimpArgs false
namespace Go.Proofs.YtaijbdknaeeoeaaDoor
open Go Go.Proofs Go.RowKit Go.Lib

set_option maxHeartbeats 16000000 in
set_option maxRecDepth 100000 in
theorem meets_any (A : Option Addr) (L : List Int) (c : Nat) (hlen : L.length ≤ 9223372036854775807) (w : World) (hE : Env w) (hDy : Days w) (h : IntsIn w w.heap.size A L) :
    Calls Tryd.prog 11 #[.slice A L.length c] w fun e w' => e = .returned (.bool true) ∧ Below w.heap.size w w' := by
  have cL := light_any A L.length c w
  have hsz := hE.size
  have HE := hid (fun w' (hb : Below w.heap.size w w') => hE.below hb hsz)
  have HDY := hid (fun w' (hb : Below w.heap.size w w') => hDy.below hb hsz)
  have cK := hid (fun w' (hb : Below w.heap.size w w') => tawake_any w' (hE.below hb hsz) (hDy.below hb hsz))
  have cK' := cK.out
  unfold Says at cK'
  have cK := hid cK'
  clear cK'
  by_cases hl : L.length ≤ 400
  · rw [decide_eq_true hl] at cL
    have cR := hid (fun w h => roll_any A L c hl w h)
    have HI := hid h
    clear hE hDy h
    go_enter Tryd.func11, Tryd.ntmps11
    go_wp2_with fail
    refine cL.mono ?_
    rintro e w' ⟨rfl, rfl⟩
    go_wp2_with fail
    refine (cR.out _ HI.out).mono ?_
    rintro e w1 ⟨rfl, hd1, hb1⟩
    have hgl := hd1.lt
    have HB : Hid (∀ W k, DE w1 w.heap.size c A L k W → Below w.heap.size w W) := hid (fun W k he => hb1.trans (he.toBelow (Nat.le_of_lt hgl) (Nat.le_refl _)))
    have cG := hid (grid_any w.heap.size c 0 A L w1 hd1)
    clear hd1 hb1 cL cR HI
    go_wp2_with fail
    refine cG.out.mono ?_
    rintro e w2 ⟨d, s, b, m, k2, rfl, hmg, he2⟩
    have HN := hid (fun (W : World) k n hn (h : DiceAt W w.heap.size A L c k) => next_at w.heap.size c k A L n hn W h)
    have cN := HN.out _ _ 8 (by omega) he2.d
    obtain ⟨r, hr⟩ : ∃ r, rollV L k2 8 = r := ⟨_, rfl⟩
    have hrr := rollV_range L k2 8 (by omega)
    rw [hr] at cN hrr
    generalize rollK L k2 = k3 at cN
    obtain ⟨q, rfl⟩ : ∃ q : Nat, r = (q : Int) := ⟨r.toNat, by omega⟩
    obtain ⟨n, hn⟩ : ∃ n, q + 1 = n := ⟨_, rfl⟩
    have hn1 : 1 ≤ n := by omega
    have hn2 : n ≤ 8 := by omega
    have hni : 1 + (q : Int) = (n : Int) := by omega
    have HE2 := hid he2
    have CN := hid cN
    have HMG := hid hmg
    have g1 : 1 ≤ d ∧ d ≤ 5 := hmg.1
    have g2 : 2 ≤ s ∧ s ≤ 8 := hmg.2.1
    clear cN he2 hr hrr hn cG hmg
    go_wp2_with fail
    refine CN.out.mono ?_
    rintro e w3 ⟨rfl, hd3, hR3⟩
    have he3 := HE2.out.next hd3 hR3
    have hs3 := he3.p.size
    have hrs : RS w1 w.heap.size c A L w3.heap.size d s b m none none (w3.alloc (.cells #[.int .i64 d, .int .i64 s, .int .i64 b, .int .i64 m] 44)) :=
      ⟨⟨_, he3.alloc _⟩, Cells4.new w3 d s b m _, (fun _ _ _ _ _ h => (by cases h)), (fun _ _ _ _ _ h => (by cases h)), (fun _ _ _ _ h => (by cases h)), (fun _ _ h => (by cases h)), (fun _ _ h => (by cases h)), hgl, hs3⟩
    have cT : Hid (∀ oa ob W, RS w1 w.heap.size c A L w3.heap.size d s b m oa ob W → Calls Tryd.prog 42 #[.pointer (some ⟨w.heap.size, 0, none⟩), .agg #[.int .i64 d, .int .i64 s, .int .i64 b, .int .i64 m], .int .i64 (n : Int)] W fun e w' => (∃ k y u l : Int, e = .returned (.agg #[.int .i64 k, .int .i64 y, .int .i64 u, .int .i64 l]) ∧ MadeT d s n k y u l) ∧ RS w1 w.heap.size c A L w3.heap.size d s b m oa ob w') :=
      hid (fun oa ob W hk => by
        obtain ⟨k0, h0⟩ := hk.e
        refine (time_any w.heap.size c _ A L d s b m n hn1 (by omega) (by omega) (by omega) (by omega) (by omega) W h0.d).mono ?_
        rintro e w' ⟨k, y, u, l, k', h1, h2, h3⟩
        exact ⟨⟨k, y, u, l, h1, h2⟩, hk.de h3⟩)
    have HRS := hid hrs
    have HW := hid (fun k h => HB.out w3 k h)
    clear he3 hrs hd3 hR3 CN HE2 hs3
    go_wp2_with fail
    have hk := HRS.out
    clear HRS
    generalize w3.heap.size = tg at hk cT ⊢
    go_cut [6, 7] (fun v6 v7 wq => ∃ (ta tb : Nat) (ka ya ua la kb yb ub lb : Int), v6 = .pointer (some ⟨ta, 0, none⟩) ∧ v7 = .pointer (some ⟨tb, 0, none⟩) ∧ MadeT d s n ka ya ua la ∧ MadeT d s n kb yb ub lb ∧ RS w1 w.heap.size c A L tg d s b m (some (ta, ka, ya, ua, la)) (some (tb, kb, yb, ub, lb)) wq)
    case first =>
      refine wp_region_held_drew (S := fun W => Box4 W tg d s b m) (by kernel_rfl) hk.drew.x.box (fun hHeld => ?_)
      have hk2 := hk.drew
      clear hk
      have hk := hk2
      clear hk2
      generalize World.drew _ = wx at hk hHeld ⊢
      (refine wpAnyH_take (i := 0) (oi := _) (v := ?_) rfl (by kernel_rfl) (by kernel_rfl) (by kernel_rfl) (fun _ _ _ h => h) (Or.inl ⟨by rfl, ?_⟩) (by assumption) ?_; rotate_left; (intro wS hSw; obtain ⟨x0, x1, x2, x3, _⟩ := hSw; (try simp only [List.getElem_toArray, List.getElem_cons_succ, List.getElem_cons_zero]); go_simp; (try with_reducible rfl)))
      try simp only [List.getElem_toArray, List.getElem_cons_succ, List.getElem_cons_zero, Act.put, List.setIfInBounds_toArray, List.set_cons_zero, List.set_cons_succ]
      (refine wpAnyH_take (i := 1) (oi := _) (v := ?_) rfl (by kernel_rfl) (by kernel_rfl) (by kernel_rfl) (fun _ _ _ h => h) (Or.inl ⟨by rfl, ?_⟩) (by assumption) ?_; rotate_left; (intro wS hSw; obtain ⟨x0, x1, x2, x3, _⟩ := hSw; (try simp only [List.getElem_toArray, List.getElem_cons_succ, List.getElem_cons_zero]); go_simp; (try with_reducible rfl)))
      try simp only [List.getElem_toArray, List.getElem_cons_succ, List.getElem_cons_zero, Act.put, List.setIfInBounds_toArray, List.set_cons_zero, List.set_cons_succ]
      (refine wpAnyH_take (i := 2) (oi := _) (v := ?_) rfl (by kernel_rfl) (by kernel_rfl) (by kernel_rfl) (fun _ _ _ h => h) (Or.inl ⟨by rfl, ?_⟩) (by assumption) ?_; rotate_left; (intro wS hSw; obtain ⟨x0, x1, x2, x3, _⟩ := hSw; (try simp only [List.getElem_toArray, List.getElem_cons_succ, List.getElem_cons_zero]); go_simp; (try with_reducible rfl)))
      try simp only [List.getElem_toArray, List.getElem_cons_succ, List.getElem_cons_zero, Act.put, List.setIfInBounds_toArray, List.set_cons_zero, List.set_cons_succ]
      (refine wpAnyH_take (i := 4) (oi := _) (v := ?_) rfl (by kernel_rfl) (by kernel_rfl) (by kernel_rfl) (fun _ _ _ h => h) (Or.inl ⟨by rfl, ?_⟩) (by assumption) ?_; rotate_left; (intro wS hSw; obtain ⟨x0, x1, x2, x3, _⟩ := hSw; (try simp only [List.getElem_toArray, List.getElem_cons_succ, List.getElem_cons_zero]); go_simp; (try with_reducible rfl)))
      try simp only [List.getElem_toArray, List.getElem_cons_succ, List.getElem_cons_zero, Act.put, List.setIfInBounds_toArray, List.set_cons_zero, List.set_cons_succ]
      (refine wpAnyH_take (i := 5) (oi := _) (v := ?_) rfl (by kernel_rfl) (by kernel_rfl) (by kernel_rfl) (fun _ _ _ h => h) (Or.inl ⟨by rfl, ?_⟩) (by assumption) ?_; rotate_left; (intro wS hSw; obtain ⟨x0, x1, x2, x3, _⟩ := hSw; (try simp only [List.getElem_toArray, List.getElem_cons_succ, List.getElem_cons_zero]); go_simp; (try with_reducible rfl)))
      try simp only [List.getElem_toArray, List.getElem_cons_succ, List.getElem_cons_zero, Act.put, List.setIfInBounds_toArray, List.set_cons_zero, List.set_cons_succ]
      (refine wpAnyH_take (i := 6) (oi := _) (v := ?_) rfl (by kernel_rfl) (by kernel_rfl) (by kernel_rfl) (fun _ _ _ h => h) (Or.inl ⟨by rfl, ?_⟩) (by assumption) ?_; rotate_left; (intro wS hSw; obtain ⟨x0, x1, x2, x3, _⟩ := hSw; (try simp only [List.getElem_toArray, List.getElem_cons_succ, List.getElem_cons_zero]); go_simp; (try with_reducible rfl)))
      try simp only [List.getElem_toArray, List.getElem_cons_succ, List.getElem_cons_zero, Act.put, List.setIfInBounds_toArray, List.set_cons_zero, List.set_cons_succ]
      refine wpAnyH_ready (rs := [3, 8, 9]) (by kernel_rfl) (by simp) ?_
      refine AllReadyH.cons (o := _) rfl (fun K hK => ?_) (AllReadyH.cons (o := _) rfl (fun K hK => ?_) (AllReadyH.cons (o := _) rfl (fun K hK => ?_) AllReadyH.nil))
      · (try simp only [List.getElem_toArray, List.getElem_cons_succ, List.getElem_cons_zero])
        go_simp
        go_at_call 42
        refine (cT.out _ _ _ hk).mono ?_
        rintro e wy ⟨⟨k1, y1, u1, l1, rfl, ht1⟩, hk2⟩
        go_wp2_with fail
        refine hK.out _ _ hk2.x.box (fun hHeld => ?_)
        clear hK K hk
        have hk := hk2
        clear hk2
        try simp only [List.getElem_toArray, List.getElem_cons_succ, List.getElem_cons_zero, Act.put, List.setIfInBounds_toArray, List.set_cons_zero, List.set_cons_succ]
        clear hHeld
        have hHeld := hk.x.box
        generalize hwy : wy = wx at hk hHeld ⊢
        clear hwy
        refine wpAnyH_ready (rs := [7, 8, 9]) (by kernel_rfl) (by simp) ?_
        refine AllReadyH.cons (o := _) rfl (fun K hK => ?_) (AllReadyH.cons (o := _) rfl (fun K hK => ?_) (AllReadyH.cons (o := _) rfl (fun K hK => ?_) AllReadyH.nil))
        · (try simp only [List.getElem_toArray, List.getElem_cons_succ, List.getElem_cons_zero])
          go_simp
          go_at_call 42
          refine (cT.out _ _ _ hk).mono ?_
          rintro e wy ⟨⟨k2, y2, u2, l2, rfl, ht2⟩, hk2⟩
          go_wp2_with fail
          refine hK.out _ _ hk2.x.box (fun hHeld => ?_)
          clear hK K hk
          have hk := hk2
          clear hk2
          try simp only [List.getElem_toArray, List.getElem_cons_succ, List.getElem_cons_zero, Act.put, List.setIfInBounds_toArray, List.set_cons_zero, List.set_cons_succ]
          clear hHeld
          have hHeld := hk.x.box
          generalize hwy : wy = wx at hk hHeld ⊢
          clear hwy
          refine wpAnyH_ready (rs := [8, 9]) (by kernel_rfl) (by simp) ?_
          refine AllReadyH.cons (o := _) rfl (fun K hK => ?_) (AllReadyH.cons (o := _) rfl (fun K hK => ?_) AllReadyH.nil)
          · (try simp only [List.getElem_toArray, List.getElem_cons_succ, List.getElem_cons_zero])
            go_simp
            have hk2 := hk.allocA 0 0 0 0
            generalize wx.heap.size = ta at hk2 ⊢
            refine hK.out _ _ hk2.x.box (fun hHeld => ?_)
            clear hK K hk
            have hk := hk2
            clear hk2
            try simp only [List.getElem_toArray, List.getElem_cons_succ, List.getElem_cons_zero, Act.put, List.setIfInBounds_toArray, List.set_cons_zero, List.set_cons_succ]
            generalize wx.alloc (.cells #[.int .i64 0, .int .i64 0, .int .i64 0, .int .i64 0] 46) = wx at hk hHeld ⊢
            refine wpAnyH_ready (rs := [9]) (by kernel_rfl) (by simp) ?_
            refine AllReadyH.cons (o := _) rfl (fun K hK => ?_) AllReadyH.nil
            (try simp only [List.getElem_toArray, List.getElem_cons_succ, List.getElem_cons_zero])
            go_simp
            have hk2 := hk.allocB 0 0 0 0
            generalize wx.heap.size = tb at hk2 ⊢
            refine hK.out _ _ hk2.x.box (fun hHeld => ?_)
            clear hK K hk
            have hk := hk2
            clear hk2
            try simp only [List.getElem_toArray, List.getElem_cons_succ, List.getElem_cons_zero, Act.put, List.setIfInBounds_toArray, List.set_cons_zero, List.set_cons_succ]
            generalize wx.alloc (.cells #[.int .i64 0, .int .i64 0, .int .i64 0, .int .i64 0] 46) = wx at hk hHeld ⊢
            refine wpAnyH_ready (rs := [10]) (by kernel_rfl) (by simp) ?_
            refine AllReadyH.cons (o := _) rfl (fun K hK => ?_) AllReadyH.nil
            (try simp only [List.getElem_toArray, List.getElem_cons_succ, List.getElem_cons_zero])
            have hx := (hk.a _ _ _ _ _ rfl).1
            obtain ⟨z0, z1, z2, z3, _⟩ := hx.box
            have f0 := hx.free 0
            have f1 := hx.free 1
            have f2 := hx.free 2
            have f3 := hx.free 3
            clear hx
            go_simp
            have hk2 := hk.setA k1 y1 u1 l1
            unfold put4 at hk2
            refine hK.out _ _ hk2.x.box (fun hHeld => ?_)
            clear hK K hk
            have hk := hk2
            clear hk2
            try simp only [List.getElem_toArray, List.getElem_cons_succ, List.getElem_cons_zero, Act.put, List.setIfInBounds_toArray, List.set_cons_zero, List.set_cons_succ]
            generalize ((((wx.setCell ⟨ta, 0, none⟩ (.int .i64 k1)).setCell ⟨ta, 1, none⟩ (.int .i64 y1)).setCell ⟨ta, 2, none⟩ (.int .i64 u1)).setCell ⟨ta, 3, none⟩ (.int .i64 l1)) = wx at hk hHeld ⊢
            refine wpAnyH_ready (rs := [11]) (by kernel_rfl) (by simp) ?_
            refine AllReadyH.cons (o := _) rfl (fun K hK => ?_) AllReadyH.nil
            (try simp only [List.getElem_toArray, List.getElem_cons_succ, List.getElem_cons_zero])
            have hx := (hk.b _ _ _ _ _ rfl).1
            obtain ⟨z0, z1, z2, z3, _⟩ := hx.box
            have f0 := hx.free 0
            have f1 := hx.free 1
            have f2 := hx.free 2
            have f3 := hx.free 3
            clear hx
            go_simp
            have hk2 := hk.setB k2 y2 u2 l2
            unfold put4 at hk2
            refine hK.out _ _ hk2.x.box (fun hHeld => ?_)
            clear hK K hk
            have hk := hk2
            clear hk2
            try simp only [List.getElem_toArray, List.getElem_cons_succ, List.getElem_cons_zero, Act.put, List.setIfInBounds_toArray, List.set_cons_zero, List.set_cons_succ]
            generalize ((((wx.setCell ⟨tb, 0, none⟩ (.int .i64 k2)).setCell ⟨tb, 1, none⟩ (.int .i64 y2)).setCell ⟨tb, 2, none⟩ (.int .i64 u2)).setCell ⟨tb, 3, none⟩ (.int .i64 l2)) = wx at hk hHeld ⊢
            refine wpAnyH_done (by kernel_rfl) ?_ _
            go_wp2_with fail
            go_meet
            exact ⟨_, _, _, _, _, _, _, _, _, _, rfl, rfl, ht1, ht2, hk⟩
          · (try simp only [List.getElem_toArray, List.getElem_cons_succ, List.getElem_cons_zero])
            go_simp
            have hk2 := hk.allocB 0 0 0 0
            generalize wx.heap.size = tb at hk2 ⊢
            refine hK.out _ _ hk2.x.box (fun hHeld => ?_)
            clear hK K hk
            have hk := hk2
            clear hk2
            try simp only [List.getElem_toArray, List.getElem_cons_succ, List.getElem_cons_zero, Act.put, List.setIfInBounds_toArray, List.set_cons_zero, List.set_cons_succ]
            generalize wx.alloc (.cells #[.int .i64 0, .int .i64 0, .int .i64 0, .int .i64 0] 46) = wx at hk hHeld ⊢
            refine wpAnyH_ready (rs := [8]) (by kernel_rfl) (by simp) ?_
            refine AllReadyH.cons (o := _) rfl (fun K hK => ?_) AllReadyH.nil
            (try simp only [List.getElem_toArray, List.getElem_cons_succ, List.getElem_cons_zero])
            go_simp
            have hk2 := hk.allocA 0 0 0 0
            generalize wx.heap.size = ta at hk2 ⊢
            refine hK.out _ _ hk2.x.box (fun hHeld => ?_)
            clear hK K hk
            have hk := hk2
            clear hk2
            try simp only [List.getElem_toArray, List.getElem_cons_succ, List.getElem_cons_zero, Act.put, List.setIfInBounds_toArray, List.set_cons_zero, List.set_cons_succ]
            generalize wx.alloc (.cells #[.int .i64 0, .int .i64 0, .int .i64 0, .int .i64 0] 46) = wx at hk hHeld ⊢
            refine wpAnyH_ready (rs := [10]) (by kernel_rfl) (by simp) ?_
            refine AllReadyH.cons (o := _) rfl (fun K hK => ?_) AllReadyH.nil
            (try simp only [List.getElem_toArray, List.getElem_cons_succ, List.getElem_cons_zero])
            have hx := (hk.a _ _ _ _ _ rfl).1
            obtain ⟨z0, z1, z2, z3, _⟩ := hx.box
            have f0 := hx.free 0
            have f1 := hx.free 1
            have f2 := hx.free 2
            have f3 := hx.free 3
            clear hx
            go_simp
            have hk2 := hk.setA k1 y1 u1 l1
            unfold put4 at hk2
            refine hK.out _ _ hk2.x.box (fun hHeld => ?_)
            clear hK K hk
            have hk := hk2
            clear hk2
            try simp only [List.getElem_toArray, List.getElem_cons_succ, List.getElem_cons_zero, Act.put, List.setIfInBounds_toArray, List.set_cons_zero, List.set_cons_succ]
            generalize ((((wx.setCell ⟨ta, 0, none⟩ (.int .i64 k1)).setCell ⟨ta, 1, none⟩ (.int .i64 y1)).setCell ⟨ta, 2, none⟩ (.int .i64 u1)).setCell ⟨ta, 3, none⟩ (.int .i64 l1)) = wx at hk hHeld ⊢
            refine wpAnyH_ready (rs := [11]) (by kernel_rfl) (by simp) ?_
            refine AllReadyH.cons (o := _) rfl (fun K hK => ?_) AllReadyH.nil
            (try simp only [List.getElem_toArray, List.getElem_cons_succ, List.getElem_cons_zero])
            have hx := (hk.b _ _ _ _ _ rfl).1
            obtain ⟨z0, z1, z2, z3, _⟩ := hx.box
            have f0 := hx.free 0
            have f1 := hx.free 1
            have f2 := hx.free 2
            have f3 := hx.free 3
            clear hx
            go_simp
            have hk2 := hk.setB k2 y2 u2 l2
            unfold put4 at hk2
            refine hK.out _ _ hk2.x.box (fun hHeld => ?_)
            clear hK K hk
            have hk := hk2
            clear hk2
            try simp only [List.getElem_toArray, List.getElem_cons_succ, List.getElem_cons_zero, Act.put, List.setIfInBounds_toArray, List.set_cons_zero, List.set_cons_succ]
            generalize ((((wx.setCell ⟨tb, 0, none⟩ (.int .i64 k2)).setCell ⟨tb, 1, none⟩ (.int .i64 y2)).setCell ⟨tb, 2, none⟩ (.int .i64 u2)).setCell ⟨tb, 3, none⟩ (.int .i64 l2)) = wx at hk hHeld ⊢
            refine wpAnyH_done (by kernel_rfl) ?_ _
            go_wp2_with fail
            go_meet
            exact ⟨_, _, _, _, _, _, _, _, _, _, rfl, rfl, ht1, ht2, hk⟩
        · (try simp only [List.getElem_toArray, List.getElem_cons_succ, List.getElem_cons_zero])
          go_simp
          have hk2 := hk.allocA 0 0 0 0
          generalize wx.heap.size = ta at hk2 ⊢
          refine hK.out _ _ hk2.x.box (fun hHeld => ?_)
          clear hK K hk
          have hk := hk2
          clear hk2
          try simp only [List.getElem_toArray, List.getElem_cons_succ, List.getElem_cons_zero, Act.put, List.setIfInBounds_toArray, List.set_cons_zero, List.set_cons_succ]
          generalize wx.alloc (.cells #[.int .i64 0, .int .i64 0, .int .i64 0, .int .i64 0] 46) = wx at hk hHeld ⊢
          refine wpAnyH_ready (rs := [7, 9]) (by kernel_rfl) (by simp) ?_
          refine AllReadyH.cons (o := _) rfl (fun K hK => ?_) (AllReadyH.cons (o := _) rfl (fun K hK => ?_) AllReadyH.nil)
          · (try simp only [List.getElem_toArray, List.getElem_cons_succ, List.getElem_cons_zero])
            go_simp
            go_at_call 42
            refine (cT.out _ _ _ hk).mono ?_
            rintro e wy ⟨⟨k2, y2, u2, l2, rfl, ht2⟩, hk2⟩
            go_wp2_with fail
            refine hK.out _ _ hk2.x.box (fun hHeld => ?_)
            clear hK K hk
            have hk := hk2
            clear hk2
            try simp only [List.getElem_toArray, List.getElem_cons_succ, List.getElem_cons_zero, Act.put, List.setIfInBounds_toArray, List.set_cons_zero, List.set_cons_succ]
            clear hHeld
            have hHeld := hk.x.box
            generalize hwy : wy = wx at hk hHeld ⊢
            clear hwy
            refine wpAnyH_ready (rs := [9]) (by kernel_rfl) (by simp) ?_
            refine AllReadyH.cons (o := _) rfl (fun K hK => ?_) AllReadyH.nil
            (try simp only [List.getElem_toArray, List.getElem_cons_succ, List.getElem_cons_zero])
            go_simp
            have hk2 := hk.allocB 0 0 0 0
            generalize wx.heap.size = tb at hk2 ⊢
            refine hK.out _ _ hk2.x.box (fun hHeld => ?_)
            clear hK K hk
            have hk := hk2
            clear hk2
            try simp only [List.getElem_toArray, List.getElem_cons_succ, List.getElem_cons_zero, Act.put, List.setIfInBounds_toArray, List.set_cons_zero, List.set_cons_succ]
            generalize wx.alloc (.cells #[.int .i64 0, .int .i64 0, .int .i64 0, .int .i64 0] 46) = wx at hk hHeld ⊢
            refine wpAnyH_ready (rs := [10]) (by kernel_rfl) (by simp) ?_
            refine AllReadyH.cons (o := _) rfl (fun K hK => ?_) AllReadyH.nil
            (try simp only [List.getElem_toArray, List.getElem_cons_succ, List.getElem_cons_zero])
            have hx := (hk.a _ _ _ _ _ rfl).1
            obtain ⟨z0, z1, z2, z3, _⟩ := hx.box
            have f0 := hx.free 0
            have f1 := hx.free 1
            have f2 := hx.free 2
            have f3 := hx.free 3
            clear hx
            go_simp
            have hk2 := hk.setA k1 y1 u1 l1
            unfold put4 at hk2
            refine hK.out _ _ hk2.x.box (fun hHeld => ?_)
            clear hK K hk
            have hk := hk2
            clear hk2
            try simp only [List.getElem_toArray, List.getElem_cons_succ, List.getElem_cons_zero, Act.put, List.setIfInBounds_toArray, List.set_cons_zero, List.set_cons_succ]
            generalize ((((wx.setCell ⟨ta, 0, none⟩ (.int .i64 k1)).setCell ⟨ta, 1, none⟩ (.int .i64 y1)).setCell ⟨ta, 2, none⟩ (.int .i64 u1)).setCell ⟨ta, 3, none⟩ (.int .i64 l1)) = wx at hk hHeld ⊢
            refine wpAnyH_ready (rs := [11]) (by kernel_rfl) (by simp) ?_
            refine AllReadyH.cons (o := _) rfl (fun K hK => ?_) AllReadyH.nil
            (try simp only [List.getElem_toArray, List.getElem_cons_succ, List.getElem_cons_zero])
            have hx := (hk.b _ _ _ _ _ rfl).1
            obtain ⟨z0, z1, z2, z3, _⟩ := hx.box
            have f0 := hx.free 0
            have f1 := hx.free 1
            have f2 := hx.free 2
            have f3 := hx.free 3
            clear hx
            go_simp
            have hk2 := hk.setB k2 y2 u2 l2
            unfold put4 at hk2
            refine hK.out _ _ hk2.x.box (fun hHeld => ?_)
            clear hK K hk
            have hk := hk2
            clear hk2
            try simp only [List.getElem_toArray, List.getElem_cons_succ, List.getElem_cons_zero, Act.put, List.setIfInBounds_toArray, List.set_cons_zero, List.set_cons_succ]
            generalize ((((wx.setCell ⟨tb, 0, none⟩ (.int .i64 k2)).setCell ⟨tb, 1, none⟩ (.int .i64 y2)).setCell ⟨tb, 2, none⟩ (.int .i64 u2)).setCell ⟨tb, 3, none⟩ (.int .i64 l2)) = wx at hk hHeld ⊢
            refine wpAnyH_done (by kernel_rfl) ?_ _
            go_wp2_with fail
            go_meet
            exact ⟨_, _, _, _, _, _, _, _, _, _, rfl, rfl, ht1, ht2, hk⟩
          · (try simp only [List.getElem_toArray, List.getElem_cons_succ, List.getElem_cons_zero])
            go_simp
            have hk2 := hk.allocB 0 0 0 0
            generalize wx.heap.size = tb at hk2 ⊢
            refine hK.out _ _ hk2.x.box (fun hHeld => ?_)
            clear hK K hk
            have hk := hk2
            clear hk2
            try simp only [List.getElem_toArray, List.getElem_cons_succ, List.getElem_cons_zero, Act.put, List.setIfInBounds_toArray, List.set_cons_zero, List.set_cons_succ]
            generalize wx.alloc (.cells #[.int .i64 0, .int .i64 0, .int .i64 0, .int .i64 0] 46) = wx at hk hHeld ⊢
            refine wpAnyH_ready (rs := [7]) (by kernel_rfl) (by simp) ?_
            refine AllReadyH.cons (o := _) rfl (fun K hK => ?_) AllReadyH.nil
            (try simp only [List.getElem_toArray, List.getElem_cons_succ, List.getElem_cons_zero])
            go_simp
            go_at_call 42
            refine (cT.out _ _ _ hk).mono ?_
            rintro e wy ⟨⟨k2, y2, u2, l2, rfl, ht2⟩, hk2⟩
            go_wp2_with fail
            refine hK.out _ _ hk2.x.box (fun hHeld => ?_)
            clear hK K hk
            have hk := hk2
            clear hk2
            try simp only [List.getElem_toArray, List.getElem_cons_succ, List.getElem_cons_zero, Act.put, List.setIfInBounds_toArray, List.set_cons_zero, List.set_cons_succ]
            clear hHeld
            have hHeld := hk.x.box
            generalize hwy : wy = wx at hk hHeld ⊢
            clear hwy
            refine wpAnyH_ready (rs := [10]) (by kernel_rfl) (by simp) ?_
            refine AllReadyH.cons (o := _) rfl (fun K hK => ?_) AllReadyH.nil
            (try simp only [List.getElem_toArray, List.getElem_cons_succ, List.getElem_cons_zero])
            have hx := (hk.a _ _ _ _ _ rfl).1
            obtain ⟨z0, z1, z2, z3, _⟩ := hx.box
            have f0 := hx.free 0
            have f1 := hx.free 1
            have f2 := hx.free 2
            have f3 := hx.free 3
            clear hx
            go_simp
            have hk2 := hk.setA k1 y1 u1 l1
            unfold put4 at hk2
            refine hK.out _ _ hk2.x.box (fun hHeld => ?_)
            clear hK K hk
            have hk := hk2
            clear hk2
            try simp only [List.getElem_toArray, List.getElem_cons_succ, List.getElem_cons_zero, Act.put, List.setIfInBounds_toArray, List.set_cons_zero, List.set_cons_succ]
            generalize ((((wx.setCell ⟨ta, 0, none⟩ (.int .i64 k1)).setCell ⟨ta, 1, none⟩ (.int .i64 y1)).setCell ⟨ta, 2, none⟩ (.int .i64 u1)).setCell ⟨ta, 3, none⟩ (.int .i64 l1)) = wx at hk hHeld ⊢
            refine wpAnyH_ready (rs := [11]) (by kernel_rfl) (by simp) ?_
            refine AllReadyH.cons (o := _) rfl (fun K hK => ?_) AllReadyH.nil
            (try simp only [List.getElem_toArray, List.getElem_cons_succ, List.getElem_cons_zero])
            have hx := (hk.b _ _ _ _ _ rfl).1
            obtain ⟨z0, z1, z2, z3, _⟩ := hx.box
            have f0 := hx.free 0
            have f1 := hx.free 1
            have f2 := hx.free 2
            have f3 := hx.free 3
            clear hx
            go_simp
            have hk2 := hk.setB k2 y2 u2 l2
            unfold put4 at hk2
            refine hK.out _ _ hk2.x.box (fun hHeld => ?_)
            clear hK K hk
            have hk := hk2
            clear hk2
            try simp only [List.getElem_toArray, List.getElem_cons_succ, List.getElem_cons_zero, Act.put, List.setIfInBounds_toArray, List.set_cons_zero, List.set_cons_succ]
            generalize ((((wx.setCell ⟨tb, 0, none⟩ (.int .i64 k2)).setCell ⟨tb, 1, none⟩ (.int .i64 y2)).setCell ⟨tb, 2, none⟩ (.int .i64 u2)).setCell ⟨tb, 3, none⟩ (.int .i64 l2)) = wx at hk hHeld ⊢
            refine wpAnyH_done (by kernel_rfl) ?_ _
            go_wp2_with fail
            go_meet
            exact ⟨_, _, _, _, _, _, _, _, _, _, rfl, rfl, ht1, ht2, hk⟩
        · (try simp only [List.getElem_toArray, List.getElem_cons_succ, List.getElem_cons_zero])
          go_simp
          have hk2 := hk.allocB 0 0 0 0
          generalize wx.heap.size = tb at hk2 ⊢
          refine hK.out _ _ hk2.x.box (fun hHeld => ?_)
          clear hK K hk
          have hk := hk2
          clear hk2
          try simp only [List.getElem_toArray, List.getElem_cons_succ, List.getElem_cons_zero, Act.put, List.setIfInBounds_toArray, List.set_cons_zero, List.set_cons_succ]
          generalize wx.alloc (.cells #[.int .i64 0, .int .i64 0, .int .i64 0, .int .i64 0] 46) = wx at hk hHeld ⊢
          refine wpAnyH_ready (rs := [7, 8]) (by kernel_rfl) (by simp) ?_
          refine AllReadyH.cons (o := _) rfl (fun K hK => ?_) (AllReadyH.cons (o := _) rfl (fun K hK => ?_) AllReadyH.nil)
          · (try simp only [List.getElem_toArray, List.getElem_cons_succ, List.getElem_cons_zero])
            go_simp
            go_at_call 42
            refine (cT.out _ _ _ hk).mono ?_
            rintro e wy ⟨⟨k2, y2, u2, l2, rfl, ht2⟩, hk2⟩
            go_wp2_with fail
            refine hK.out _ _ hk2.x.box (fun hHeld => ?_)
            clear hK K hk
            have hk := hk2
            clear hk2
            try simp only [List.getElem_toArray, List.getElem_cons_succ, List.getElem_cons_zero, Act.put, List.setIfInBounds_toArray, List.set_cons_zero, List.set_cons_succ]
            clear hHeld
            have hHeld := hk.x.box
            generalize hwy : wy = wx at hk hHeld ⊢
            clear hwy
            refine wpAnyH_ready (rs := [8]) (by kernel_rfl) (by simp) ?_
            refine AllReadyH.cons (o := _) rfl (fun K hK => ?_) AllReadyH.nil
            (try simp only [List.getElem_toArray, List.getElem_cons_succ, List.getElem_cons_zero])
            go_simp
            have hk2 := hk.allocA 0 0 0 0
            generalize wx.heap.size = ta at hk2 ⊢
            refine hK.out _ _ hk2.x.box (fun hHeld => ?_)
            clear hK K hk
            have hk := hk2
            clear hk2
            try simp only [List.getElem_toArray, List.getElem_cons_succ, List.getElem_cons_zero, Act.put, List.setIfInBounds_toArray, List.set_cons_zero, List.set_cons_succ]
            generalize wx.alloc (.cells #[.int .i64 0, .int .i64 0, .int .i64 0, .int .i64 0] 46) = wx at hk hHeld ⊢
            refine wpAnyH_ready (rs := [10]) (by kernel_rfl) (by simp) ?_
            refine AllReadyH.cons (o := _) rfl (fun K hK => ?_) AllReadyH.nil
            (try simp only [List.getElem_toArray, List.getElem_cons_succ, List.getElem_cons_zero])
            have hx := (hk.a _ _ _ _ _ rfl).1
            obtain ⟨z0, z1, z2, z3, _⟩ := hx.box
            have f0 := hx.free 0
            have f1 := hx.free 1
            have f2 := hx.free 2
            have f3 := hx.free 3
            clear hx
            go_simp
            have hk2 := hk.setA k1 y1 u1 l1
            unfold put4 at hk2
            refine hK.out _ _ hk2.x.box (fun hHeld => ?_)
            clear hK K hk
            have hk := hk2
            clear hk2
            try simp only [List.getElem_toArray, List.getElem_cons_succ, List.getElem_cons_zero, Act.put, List.setIfInBounds_toArray, List.set_cons_zero, List.set_cons_succ]
            generalize ((((wx.setCell ⟨ta, 0, none⟩ (.int .i64 k1)).setCell ⟨ta, 1, none⟩ (.int .i64 y1)).setCell ⟨ta, 2, none⟩ (.int .i64 u1)).setCell ⟨ta, 3, none⟩ (.int .i64 l1)) = wx at hk hHeld ⊢
            refine wpAnyH_ready (rs := [11]) (by kernel_rfl) (by simp) ?_
            refine AllReadyH.cons (o := _) rfl (fun K hK => ?_) AllReadyH.nil
            (try simp only [List.getElem_toArray, List.getElem_cons_succ, List.getElem_cons_zero])
            have hx := (hk.b _ _ _ _ _ rfl).1
            obtain ⟨z0, z1, z2, z3, _⟩ := hx.box
            have f0 := hx.free 0
            have f1 := hx.free 1
            have f2 := hx.free 2
            have f3 := hx.free 3
            clear hx
            go_simp
            have hk2 := hk.setB k2 y2 u2 l2
            unfold put4 at hk2
            refine hK.out _ _ hk2.x.box (fun hHeld => ?_)
            clear hK K hk
            have hk := hk2
            clear hk2
            try simp only [List.getElem_toArray, List.getElem_cons_succ, List.getElem_cons_zero, Act.put, List.setIfInBounds_toArray, List.set_cons_zero, List.set_cons_succ]
            generalize ((((wx.setCell ⟨tb, 0, none⟩ (.int .i64 k2)).setCell ⟨tb, 1, none⟩ (.int .i64 y2)).setCell ⟨tb, 2, none⟩ (.int .i64 u2)).setCell ⟨tb, 3, none⟩ (.int .i64 l2)) = wx at hk hHeld ⊢
            refine wpAnyH_done (by kernel_rfl) ?_ _
            go_wp2_with fail
            go_meet
            exact ⟨_, _, _, _, _, _, _, _, _, _, rfl, rfl, ht1, ht2, hk⟩
          · (try simp only [List.getElem_toArray, List.getElem_cons_succ, List.getElem_cons_zero])
            go_simp
            have hk2 := hk.allocA 0 0 0 0
            generalize wx.heap.size = ta at hk2 ⊢
            refine hK.out _ _ hk2.x.box (fun hHeld => ?_)
            clear hK K hk
            have hk := hk2
            clear hk2
            try simp only [List.getElem_toArray, List.getElem_cons_succ, List.getElem_cons_zero, Act.put, List.setIfInBounds_toArray, List.set_cons_zero, List.set_cons_succ]
            generalize wx.alloc (.cells #[.int .i64 0, .int .i64 0, .int .i64 0, .int .i64 0] 46) = wx at hk hHeld ⊢
            refine wpAnyH_ready (rs := [7]) (by kernel_rfl) (by simp) ?_
            refine AllReadyH.cons (o := _) rfl (fun K hK => ?_) AllReadyH.nil
            (try simp only [List.getElem_toArray, List.getElem_cons_succ, List.getElem_cons_zero])
            go_simp
            go_at_call 42
            refine (cT.out _ _ _ hk).mono ?_
            rintro e wy ⟨⟨k2, y2, u2, l2, rfl, ht2⟩, hk2⟩
            go_wp2_with fail
            refine hK.out _ _ hk2.x.box (fun hHeld => ?_)
            clear hK K hk
            have hk := hk2
            clear hk2
            try simp only [List.getElem_toArray, List.getElem_cons_succ, List.getElem_cons_zero, Act.put, List.setIfInBounds_toArray, List.set_cons_zero, List.set_cons_succ]
            clear hHeld
            have hHeld := hk.x.box
            generalize hwy : wy = wx at hk hHeld ⊢
            clear hwy
            refine wpAnyH_ready (rs := [10]) (by kernel_rfl) (by simp) ?_
            refine AllReadyH.cons (o := _) rfl (fun K hK => ?_) AllReadyH.nil
            (try simp only [List.getElem_toArray, List.getElem_cons_succ, List.getElem_cons_zero])
            have hx := (hk.a _ _ _ _ _ rfl).1
            obtain ⟨z0, z1, z2, z3, _⟩ := hx.box
            have f0 := hx.free 0
            have f1 := hx.free 1
            have f2 := hx.free 2
            have f3 := hx.free 3
            clear hx
            go_simp
            have hk2 := hk.setA k1 y1 u1 l1
            unfold put4 at hk2
            refine hK.out _ _ hk2.x.box (fun hHeld => ?_)
            clear hK K hk
            have hk := hk2
            clear hk2
            try simp only [List.getElem_toArray, List.getElem_cons_succ, List.getElem_cons_zero, Act.put, List.setIfInBounds_toArray, List.set_cons_zero, List.set_cons_succ]
            generalize ((((wx.setCell ⟨ta, 0, none⟩ (.int .i64 k1)).setCell ⟨ta, 1, none⟩ (.int .i64 y1)).setCell ⟨ta, 2, none⟩ (.int .i64 u1)).setCell ⟨ta, 3, none⟩ (.int .i64 l1)) = wx at hk hHeld ⊢
            refine wpAnyH_ready (rs := [11]) (by kernel_rfl) (by simp) ?_
            refine AllReadyH.cons (o := _) rfl (fun K hK => ?_) AllReadyH.nil
            (try simp only [List.getElem_toArray, List.getElem_cons_succ, List.getElem_cons_zero])
            have hx := (hk.b _ _ _ _ _ rfl).1
            obtain ⟨z0, z1, z2, z3, _⟩ := hx.box
            have f0 := hx.free 0
            have f1 := hx.free 1
            have f2 := hx.free 2
            have f3 := hx.free 3
            clear hx
            go_simp
            have hk2 := hk.setB k2 y2 u2 l2
            unfold put4 at hk2
            refine hK.out _ _ hk2.x.box (fun hHeld => ?_)
            clear hK K hk
            have hk := hk2
            clear hk2
            try simp only [List.getElem_toArray, List.getElem_cons_succ, List.getElem_cons_zero, Act.put, List.setIfInBounds_toArray, List.set_cons_zero, List.set_cons_succ]
            generalize ((((wx.setCell ⟨tb, 0, none⟩ (.int .i64 k2)).setCell ⟨tb, 1, none⟩ (.int .i64 y2)).setCell ⟨tb, 2, none⟩ (.int .i64 u2)).setCell ⟨tb, 3, none⟩ (.int .i64 l2)) = wx at hk hHeld ⊢
            refine wpAnyH_done (by kernel_rfl) ?_ _
            go_wp2_with fail
            go_meet
            exact ⟨_, _, _, _, _, _, _, _, _, _, rfl, rfl, ht1, ht2, hk⟩
      · (try simp only [List.getElem_toArray, List.getElem_cons_succ, List.getElem_cons_zero])
        go_simp
        have hk2 := hk.allocA 0 0 0 0
        generalize wx.heap.size = ta at hk2 ⊢
        refine hK.out _ _ hk2.x.box (fun hHeld => ?_)
        clear hK K hk
        have hk := hk2
        clear hk2
        try simp only [List.getElem_toArray, List.getElem_cons_succ, List.getElem_cons_zero, Act.put, List.setIfInBounds_toArray, List.set_cons_zero, List.set_cons_succ]
        generalize wx.alloc (.cells #[.int .i64 0, .int .i64 0, .int .i64 0, .int .i64 0] 46) = wx at hk hHeld ⊢
        refine wpAnyH_ready (rs := [3, 9]) (by kernel_rfl) (by simp) ?_
        refine AllReadyH.cons (o := _) rfl (fun K hK => ?_) (AllReadyH.cons (o := _) rfl (fun K hK => ?_) AllReadyH.nil)
        · (try simp only [List.getElem_toArray, List.getElem_cons_succ, List.getElem_cons_zero])
          go_simp
          go_at_call 42
          refine (cT.out _ _ _ hk).mono ?_
          rintro e wy ⟨⟨k1, y1, u1, l1, rfl, ht1⟩, hk2⟩
          go_wp2_with fail
          refine hK.out _ _ hk2.x.box (fun hHeld => ?_)
          clear hK K hk
          have hk := hk2
          clear hk2
          try simp only [List.getElem_toArray, List.getElem_cons_succ, List.getElem_cons_zero, Act.put, List.setIfInBounds_toArray, List.set_cons_zero, List.set_cons_succ]
          clear hHeld
          have hHeld := hk.x.box
          generalize hwy : wy = wx at hk hHeld ⊢
          clear hwy
          refine wpAnyH_ready (rs := [7, 9]) (by kernel_rfl) (by simp) ?_
          refine AllReadyH.cons (o := _) rfl (fun K hK => ?_) (AllReadyH.cons (o := _) rfl (fun K hK => ?_) AllReadyH.nil)
          · (try simp only [List.getElem_toArray, List.getElem_cons_succ, List.getElem_cons_zero])
            go_simp
            go_at_call 42
            refine (cT.out _ _ _ hk).mono ?_
            rintro e wy ⟨⟨k2, y2, u2, l2, rfl, ht2⟩, hk2⟩
            go_wp2_with fail
            refine hK.out _ _ hk2.x.box (fun hHeld => ?_)
            clear hK K hk
            have hk := hk2
            clear hk2
            try simp only [List.getElem_toArray, List.getElem_cons_succ, List.getElem_cons_zero, Act.put, List.setIfInBounds_toArray, List.set_cons_zero, List.set_cons_succ]
            clear hHeld
            have hHeld := hk.x.box
            generalize hwy : wy = wx at hk hHeld ⊢
            clear hwy
            refine wpAnyH_ready (rs := [9]) (by kernel_rfl) (by simp) ?_
            refine AllReadyH.cons (o := _) rfl (fun K hK => ?_) AllReadyH.nil
            (try simp only [List.getElem_toArray, List.getElem_cons_succ, List.getElem_cons_zero])
            go_simp
            have hk2 := hk.allocB 0 0 0 0
            generalize wx.heap.size = tb at hk2 ⊢
            refine hK.out _ _ hk2.x.box (fun hHeld => ?_)
            clear hK K hk
            have hk := hk2
            clear hk2
            try simp only [List.getElem_toArray, List.getElem_cons_succ, List.getElem_cons_zero, Act.put, List.setIfInBounds_toArray, List.set_cons_zero, List.set_cons_succ]
            generalize wx.alloc (.cells #[.int .i64 0, .int .i64 0, .int .i64 0, .int .i64 0] 46) = wx at hk hHeld ⊢
            refine wpAnyH_ready (rs := [10]) (by kernel_rfl) (by simp) ?_
            refine AllReadyH.cons (o := _) rfl (fun K hK => ?_) AllReadyH.nil
            (try simp only [List.getElem_toArray, List.getElem_cons_succ, List.getElem_cons_zero])
            have hx := (hk.a _ _ _ _ _ rfl).1
            obtain ⟨z0, z1, z2, z3, _⟩ := hx.box
            have f0 := hx.free 0
            have f1 := hx.free 1
            have f2 := hx.free 2
            have f3 := hx.free 3
            clear hx
            go_simp
            have hk2 := hk.setA k1 y1 u1 l1
            unfold put4 at hk2
            refine hK.out _ _ hk2.x.box (fun hHeld => ?_)
            clear hK K hk
            have hk := hk2
            clear hk2
            try simp only [List.getElem_toArray, List.getElem_cons_succ, List.getElem_cons_zero, Act.put, List.setIfInBounds_toArray, List.set_cons_zero, List.set_cons_succ]
            generalize ((((wx.setCell ⟨ta, 0, none⟩ (.int .i64 k1)).setCell ⟨ta, 1, none⟩ (.int .i64 y1)).setCell ⟨ta, 2, none⟩ (.int .i64 u1)).setCell ⟨ta, 3, none⟩ (.int .i64 l1)) = wx at hk hHeld ⊢
            refine wpAnyH_ready (rs := [11]) (by kernel_rfl) (by simp) ?_
            refine AllReadyH.cons (o := _) rfl (fun K hK => ?_) AllReadyH.nil
            (try simp only [List.getElem_toArray, List.getElem_cons_succ, List.getElem_cons_zero])
            have hx := (hk.b _ _ _ _ _ rfl).1
            obtain ⟨z0, z1, z2, z3, _⟩ := hx.box
            have f0 := hx.free 0
            have f1 := hx.free 1
            have f2 := hx.free 2
            have f3 := hx.free 3
            clear hx
            go_simp
            have hk2 := hk.setB k2 y2 u2 l2
            unfold put4 at hk2
            refine hK.out _ _ hk2.x.box (fun hHeld => ?_)
            clear hK K hk
            have hk := hk2
            clear hk2
            try simp only [List.getElem_toArray, List.getElem_cons_succ, List.getElem_cons_zero, Act.put, List.setIfInBounds_toArray, List.set_cons_zero, List.set_cons_succ]
            generalize ((((wx.setCell ⟨tb, 0, none⟩ (.int .i64 k2)).setCell ⟨tb, 1, none⟩ (.int .i64 y2)).setCell ⟨tb, 2, none⟩ (.int .i64 u2)).setCell ⟨tb, 3, none⟩ (.int .i64 l2)) = wx at hk hHeld ⊢
            refine wpAnyH_done (by kernel_rfl) ?_ _
            go_wp2_with fail
            go_meet
            exact ⟨_, _, _, _, _, _, _, _, _, _, rfl, rfl, ht1, ht2, hk⟩
          · (try simp only [List.getElem_toArray, List.getElem_cons_succ, List.getElem_cons_zero])
            go_simp
            have hk2 := hk.allocB 0 0 0 0
            generalize wx.heap.size = tb at hk2 ⊢
            refine hK.out _ _ hk2.x.box (fun hHeld => ?_)
            clear hK K hk
            have hk := hk2
            clear hk2
            try simp only [List.getElem_toArray, List.getElem_cons_succ, List.getElem_cons_zero, Act.put, List.setIfInBounds_toArray, List.set_cons_zero, List.set_cons_succ]
            generalize wx.alloc (.cells #[.int .i64 0, .int .i64 0, .int .i64 0, .int .i64 0] 46) = wx at hk hHeld ⊢
            refine wpAnyH_ready (rs := [7]) (by kernel_rfl) (by simp) ?_
            refine AllReadyH.cons (o := _) rfl (fun K hK => ?_) AllReadyH.nil
            (try simp only [List.getElem_toArray, List.getElem_cons_succ, List.getElem_cons_zero])
            go_simp
            go_at_call 42
            refine (cT.out _ _ _ hk).mono ?_
            rintro e wy ⟨⟨k2, y2, u2, l2, rfl, ht2⟩, hk2⟩
            go_wp2_with fail
            refine hK.out _ _ hk2.x.box (fun hHeld => ?_)
            clear hK K hk
            have hk := hk2
            clear hk2
            try simp only [List.getElem_toArray, List.getElem_cons_succ, List.getElem_cons_zero, Act.put, List.setIfInBounds_toArray, List.set_cons_zero, List.set_cons_succ]
            clear hHeld
            have hHeld := hk.x.box
            generalize hwy : wy = wx at hk hHeld ⊢
            clear hwy
            refine wpAnyH_ready (rs := [10]) (by kernel_rfl) (by simp) ?_
            refine AllReadyH.cons (o := _) rfl (fun K hK => ?_) AllReadyH.nil
            (try simp only [List.getElem_toArray, List.getElem_cons_succ, List.getElem_cons_zero])
            have hx := (hk.a _ _ _ _ _ rfl).1
            obtain ⟨z0, z1, z2, z3, _⟩ := hx.box
            have f0 := hx.free 0
            have f1 := hx.free 1
            have f2 := hx.free 2
            have f3 := hx.free 3
            clear hx
            go_simp
            have hk2 := hk.setA k1 y1 u1 l1
            unfold put4 at hk2
            refine hK.out _ _ hk2.x.box (fun hHeld => ?_)
            clear hK K hk
            have hk := hk2
            clear hk2
            try simp only [List.getElem_toArray, List.getElem_cons_succ, List.getElem_cons_zero, Act.put, List.setIfInBounds_toArray, List.set_cons_zero, List.set_cons_succ]
            generalize ((((wx.setCell ⟨ta, 0, none⟩ (.int .i64 k1)).setCell ⟨ta, 1, none⟩ (.int .i64 y1)).setCell ⟨ta, 2, none⟩ (.int .i64 u1)).setCell ⟨ta, 3, none⟩ (.int .i64 l1)) = wx at hk hHeld ⊢
            refine wpAnyH_ready (rs := [11]) (by kernel_rfl) (by simp) ?_
            refine AllReadyH.cons (o := _) rfl (fun K hK => ?_) AllReadyH.nil
            (try simp only [List.getElem_toArray, List.getElem_cons_succ, List.getElem_cons_zero])
            have hx := (hk.b _ _ _ _ _ rfl).1
            obtain ⟨z0, z1, z2, z3, _⟩ := hx.box
            have f0 := hx.free 0
            have f1 := hx.free 1
            have f2 := hx.free 2
            have f3 := hx.free 3
            clear hx
            go_simp
            have hk2 := hk.setB k2 y2 u2 l2
            unfold put4 at hk2
            refine hK.out _ _ hk2.x.box (fun hHeld => ?_)
            clear hK K hk
            have hk := hk2
            clear hk2
            try simp only [List.getElem_toArray, List.getElem_cons_succ, List.getElem_cons_zero, Act.put, List.setIfInBounds_toArray, List.set_cons_zero, List.set_cons_succ]
            generalize ((((wx.setCell ⟨tb, 0, none⟩ (.int .i64 k2)).setCell ⟨tb, 1, none⟩ (.int .i64 y2)).setCell ⟨tb, 2, none⟩ (.int .i64 u2)).setCell ⟨tb, 3, none⟩ (.int .i64 l2)) = wx at hk hHeld ⊢
            refine wpAnyH_done (by kernel_rfl) ?_ _
            go_wp2_with fail
            go_meet
            exact ⟨_, _, _, _, _, _, _, _, _, _, rfl, rfl, ht1, ht2, hk⟩
        · (try simp only [List.getElem_toArray, List.getElem_cons_succ, List.getElem_cons_zero])
          go_simp
          have hk2 := hk.allocB 0 0 0 0
          generalize wx.heap.size = tb at hk2 ⊢
          refine hK.out _ _ hk2.x.box (fun hHeld => ?_)
          clear hK K hk
          have hk := hk2
          clear hk2
          try simp only [List.getElem_toArray, List.getElem_cons_succ, List.getElem_cons_zero, Act.put, List.setIfInBounds_toArray, List.set_cons_zero, List.set_cons_succ]
          generalize wx.alloc (.cells #[.int .i64 0, .int .i64 0, .int .i64 0, .int .i64 0] 46) = wx at hk hHeld ⊢
          refine wpAnyH_ready (rs := [3]) (by kernel_rfl) (by simp) ?_
          refine AllReadyH.cons (o := _) rfl (fun K hK => ?_) AllReadyH.nil
          (try simp only [List.getElem_toArray, List.getElem_cons_succ, List.getElem_cons_zero])
          go_simp
          go_at_call 42
          refine (cT.out _ _ _ hk).mono ?_
          rintro e wy ⟨⟨k1, y1, u1, l1, rfl, ht1⟩, hk2⟩
          go_wp2_with fail
          refine hK.out _ _ hk2.x.box (fun hHeld => ?_)
          clear hK K hk
          have hk := hk2
          clear hk2
          try simp only [List.getElem_toArray, List.getElem_cons_succ, List.getElem_cons_zero, Act.put, List.setIfInBounds_toArray, List.set_cons_zero, List.set_cons_succ]
          clear hHeld
          have hHeld := hk.x.box
          generalize hwy : wy = wx at hk hHeld ⊢
          clear hwy
          refine wpAnyH_ready (rs := [7]) (by kernel_rfl) (by simp) ?_
          refine AllReadyH.cons (o := _) rfl (fun K hK => ?_) AllReadyH.nil
          (try simp only [List.getElem_toArray, List.getElem_cons_succ, List.getElem_cons_zero])
          go_simp
          go_at_call 42
          refine (cT.out _ _ _ hk).mono ?_
          rintro e wy ⟨⟨k2, y2, u2, l2, rfl, ht2⟩, hk2⟩
          go_wp2_with fail
          refine hK.out _ _ hk2.x.box (fun hHeld => ?_)
          clear hK K hk
          have hk := hk2
          clear hk2
          try simp only [List.getElem_toArray, List.getElem_cons_succ, List.getElem_cons_zero, Act.put, List.setIfInBounds_toArray, List.set_cons_zero, List.set_cons_succ]
          clear hHeld
          have hHeld := hk.x.box
          generalize hwy : wy = wx at hk hHeld ⊢
          clear hwy
          refine wpAnyH_ready (rs := [10]) (by kernel_rfl) (by simp) ?_
          refine AllReadyH.cons (o := _) rfl (fun K hK => ?_) AllReadyH.nil
          (try simp only [List.getElem_toArray, List.getElem_cons_succ, List.getElem_cons_zero])
          have hx := (hk.a _ _ _ _ _ rfl).1
          obtain ⟨z0, z1, z2, z3, _⟩ := hx.box
          have f0 := hx.free 0
          have f1 := hx.free 1
          have f2 := hx.free 2
          have f3 := hx.free 3
          clear hx
          go_simp
          have hk2 := hk.setA k1 y1 u1 l1
          unfold put4 at hk2
          refine hK.out _ _ hk2.x.box (fun hHeld => ?_)
          clear hK K hk
          have hk := hk2
          clear hk2
          try simp only [List.getElem_toArray, List.getElem_cons_succ, List.getElem_cons_zero, Act.put, List.setIfInBounds_toArray, List.set_cons_zero, List.set_cons_succ]
          generalize ((((wx.setCell ⟨ta, 0, none⟩ (.int .i64 k1)).setCell ⟨ta, 1, none⟩ (.int .i64 y1)).setCell ⟨ta, 2, none⟩ (.int .i64 u1)).setCell ⟨ta, 3, none⟩ (.int .i64 l1)) = wx at hk hHeld ⊢
          refine wpAnyH_ready (rs := [11]) (by kernel_rfl) (by simp) ?_
          refine AllReadyH.cons (o := _) rfl (fun K hK => ?_) AllReadyH.nil
          (try simp only [List.getElem_toArray, List.getElem_cons_succ, List.getElem_cons_zero])
          have hx := (hk.b _ _ _ _ _ rfl).1
          obtain ⟨z0, z1, z2, z3, _⟩ := hx.box
          have f0 := hx.free 0
          have f1 := hx.free 1
          have f2 := hx.free 2
          have f3 := hx.free 3
          clear hx
          go_simp
          have hk2 := hk.setB k2 y2 u2 l2
          unfold put4 at hk2
          refine hK.out _ _ hk2.x.box (fun hHeld => ?_)
          clear hK K hk
          have hk := hk2
          clear hk2
          try simp only [List.getElem_toArray, List.getElem_cons_succ, List.getElem_cons_zero, Act.put, List.setIfInBounds_toArray, List.set_cons_zero, List.set_cons_succ]
          generalize ((((wx.setCell ⟨tb, 0, none⟩ (.int .i64 k2)).setCell ⟨tb, 1, none⟩ (.int .i64 y2)).setCell ⟨tb, 2, none⟩ (.int .i64 u2)).setCell ⟨tb, 3, none⟩ (.int .i64 l2)) = wx at hk hHeld ⊢
          refine wpAnyH_done (by kernel_rfl) ?_ _
          go_wp2_with fail
          go_meet
          exact ⟨_, _, _, _, _, _, _, _, _, _, rfl, rfl, ht1, ht2, hk⟩
      · (try simp only [List.getElem_toArray, List.getElem_cons_succ, List.getElem_cons_zero])
        go_simp
        have hk2 := hk.allocB 0 0 0 0
        generalize wx.heap.size = tb at hk2 ⊢
        refine hK.out _ _ hk2.x.box (fun hHeld => ?_)
        clear hK K hk
        have hk := hk2
        clear hk2
        try simp only [List.getElem_toArray, List.getElem_cons_succ, List.getElem_cons_zero, Act.put, List.setIfInBounds_toArray, List.set_cons_zero, List.set_cons_succ]
        generalize wx.alloc (.cells #[.int .i64 0, .int .i64 0, .int .i64 0, .int .i64 0] 46) = wx at hk hHeld ⊢
        refine wpAnyH_ready (rs := [3, 8]) (by kernel_rfl) (by simp) ?_
        refine AllReadyH.cons (o := _) rfl (fun K hK => ?_) (AllReadyH.cons (o := _) rfl (fun K hK => ?_) AllReadyH.nil)
        · (try simp only [List.getElem_toArray, List.getElem_cons_succ, List.getElem_cons_zero])
          go_simp
          go_at_call 42
          refine (cT.out _ _ _ hk).mono ?_
          rintro e wy ⟨⟨k1, y1, u1, l1, rfl, ht1⟩, hk2⟩
          go_wp2_with fail
          refine hK.out _ _ hk2.x.box (fun hHeld => ?_)
          clear hK K hk
          have hk := hk2
          clear hk2
          try simp only [List.getElem_toArray, List.getElem_cons_succ, List.getElem_cons_zero, Act.put, List.setIfInBounds_toArray, List.set_cons_zero, List.set_cons_succ]
          clear hHeld
          have hHeld := hk.x.box
          generalize hwy : wy = wx at hk hHeld ⊢
          clear hwy
          refine wpAnyH_ready (rs := [7, 8]) (by kernel_rfl) (by simp) ?_
          refine AllReadyH.cons (o := _) rfl (fun K hK => ?_) (AllReadyH.cons (o := _) rfl (fun K hK => ?_) AllReadyH.nil)
          · (try simp only [List.getElem_toArray, List.getElem_cons_succ, List.getElem_cons_zero])
            go_simp
            go_at_call 42
            refine (cT.out _ _ _ hk).mono ?_
            rintro e wy ⟨⟨k2, y2, u2, l2, rfl, ht2⟩, hk2⟩
            go_wp2_with fail
            refine hK.out _ _ hk2.x.box (fun hHeld => ?_)
            clear hK K hk
            have hk := hk2
            clear hk2
            try simp only [List.getElem_toArray, List.getElem_cons_succ, List.getElem_cons_zero, Act.put, List.setIfInBounds_toArray, List.set_cons_zero, List.set_cons_succ]
            clear hHeld
            have hHeld := hk.x.box
            generalize hwy : wy = wx at hk hHeld ⊢
            clear hwy
            refine wpAnyH_ready (rs := [8]) (by kernel_rfl) (by simp) ?_
            refine AllReadyH.cons (o := _) rfl (fun K hK => ?_) AllReadyH.nil
            (try simp only [List.getElem_toArray, List.getElem_cons_succ, List.getElem_cons_zero])
            go_simp
            have hk2 := hk.allocA 0 0 0 0
            generalize wx.heap.size = ta at hk2 ⊢
            refine hK.out _ _ hk2.x.box (fun hHeld => ?_)
            clear hK K hk
            have hk := hk2
            clear hk2
            try simp only [List.getElem_toArray, List.getElem_cons_succ, List.getElem_cons_zero, Act.put, List.setIfInBounds_toArray, List.set_cons_zero, List.set_cons_succ]
            generalize wx.alloc (.cells #[.int .i64 0, .int .i64 0, .int .i64 0, .int .i64 0] 46) = wx at hk hHeld ⊢
            refine wpAnyH_ready (rs := [10]) (by kernel_rfl) (by simp) ?_
            refine AllReadyH.cons (o := _) rfl (fun K hK => ?_) AllReadyH.nil
            (try simp only [List.getElem_toArray, List.getElem_cons_succ, List.getElem_cons_zero])
            have hx := (hk.a _ _ _ _ _ rfl).1
            obtain ⟨z0, z1, z2, z3, _⟩ := hx.box
            have f0 := hx.free 0
            have f1 := hx.free 1
            have f2 := hx.free 2
            have f3 := hx.free 3
            clear hx
            go_simp
            have hk2 := hk.setA k1 y1 u1 l1
            unfold put4 at hk2
            refine hK.out _ _ hk2.x.box (fun hHeld => ?_)
            clear hK K hk
            have hk := hk2
            clear hk2
            try simp only [List.getElem_toArray, List.getElem_cons_succ, List.getElem_cons_zero, Act.put, List.setIfInBounds_toArray, List.set_cons_zero, List.set_cons_succ]
            generalize ((((wx.setCell ⟨ta, 0, none⟩ (.int .i64 k1)).setCell ⟨ta, 1, none⟩ (.int .i64 y1)).setCell ⟨ta, 2, none⟩ (.int .i64 u1)).setCell ⟨ta, 3, none⟩ (.int .i64 l1)) = wx at hk hHeld ⊢
            refine wpAnyH_ready (rs := [11]) (by kernel_rfl) (by simp) ?_
            refine AllReadyH.cons (o := _) rfl (fun K hK => ?_) AllReadyH.nil
            (try simp only [List.getElem_toArray, List.getElem_cons_succ, List.getElem_cons_zero])
            have hx := (hk.b _ _ _ _ _ rfl).1
            obtain ⟨z0, z1, z2, z3, _⟩ := hx.box
            have f0 := hx.free 0
            have f1 := hx.free 1
            have f2 := hx.free 2
            have f3 := hx.free 3
            clear hx
            go_simp
            have hk2 := hk.setB k2 y2 u2 l2
            unfold put4 at hk2
            refine hK.out _ _ hk2.x.box (fun hHeld => ?_)
            clear hK K hk
            have hk := hk2
            clear hk2
            try simp only [List.getElem_toArray, List.getElem_cons_succ, List.getElem_cons_zero, Act.put, List.setIfInBounds_toArray, List.set_cons_zero, List.set_cons_succ]
            generalize ((((wx.setCell ⟨tb, 0, none⟩ (.int .i64 k2)).setCell ⟨tb, 1, none⟩ (.int .i64 y2)).setCell ⟨tb, 2, none⟩ (.int .i64 u2)).setCell ⟨tb, 3, none⟩ (.int .i64 l2)) = wx at hk hHeld ⊢
            refine wpAnyH_done (by kernel_rfl) ?_ _
            go_wp2_with fail
            go_meet
            exact ⟨_, _, _, _, _, _, _, _, _, _, rfl, rfl, ht1, ht2, hk⟩
          · (try simp only [List.getElem_toArray, List.getElem_cons_succ, List.getElem_cons_zero])
            go_simp
            have hk2 := hk.allocA 0 0 0 0
            generalize wx.heap.size = ta at hk2 ⊢
            refine hK.out _ _ hk2.x.box (fun hHeld => ?_)
            clear hK K hk
            have hk := hk2
            clear hk2
            try simp only [List.getElem_toArray, List.getElem_cons_succ, List.getElem_cons_zero, Act.put, List.setIfInBounds_toArray, List.set_cons_zero, List.set_cons_succ]
            generalize wx.alloc (.cells #[.int .i64 0, .int .i64 0, .int .i64 0, .int .i64 0] 46) = wx at hk hHeld ⊢
            refine wpAnyH_ready (rs := [7]) (by kernel_rfl) (by simp) ?_
            refine AllReadyH.cons (o := _) rfl (fun K hK => ?_) AllReadyH.nil
            (try simp only [List.getElem_toArray, List.getElem_cons_succ, List.getElem_cons_zero])
            go_simp
            go_at_call 42
            refine (cT.out _ _ _ hk).mono ?_
            rintro e wy ⟨⟨k2, y2, u2, l2, rfl, ht2⟩, hk2⟩
            go_wp2_with fail
            refine hK.out _ _ hk2.x.box (fun hHeld => ?_)
            clear hK K hk
            have hk := hk2
            clear hk2
            try simp only [List.getElem_toArray, List.getElem_cons_succ, List.getElem_cons_zero, Act.put, List.setIfInBounds_toArray, List.set_cons_zero, List.set_cons_succ]
            clear hHeld
            have hHeld := hk.x.box
            generalize hwy : wy = wx at hk hHeld ⊢
            clear hwy
            refine wpAnyH_ready (rs := [10]) (by kernel_rfl) (by simp) ?_
            refine AllReadyH.cons (o := _) rfl (fun K hK => ?_) AllReadyH.nil
            (try simp only [List.getElem_toArray, List.getElem_cons_succ, List.getElem_cons_zero])
            have hx := (hk.a _ _ _ _ _ rfl).1
            obtain ⟨z0, z1, z2, z3, _⟩ := hx.box
            have f0 := hx.free 0
            have f1 := hx.free 1
            have f2 := hx.free 2
            have f3 := hx.free 3
            clear hx
            go_simp
            have hk2 := hk.setA k1 y1 u1 l1
            unfold put4 at hk2
            refine hK.out _ _ hk2.x.box (fun hHeld => ?_)
            clear hK K hk
            have hk := hk2
            clear hk2
            try simp only [List.getElem_toArray, List.getElem_cons_succ, List.getElem_cons_zero, Act.put, List.setIfInBounds_toArray, List.set_cons_zero, List.set_cons_succ]
            generalize ((((wx.setCell ⟨ta, 0, none⟩ (.int .i64 k1)).setCell ⟨ta, 1, none⟩ (.int .i64 y1)).setCell ⟨ta, 2, none⟩ (.int .i64 u1)).setCell ⟨ta, 3, none⟩ (.int .i64 l1)) = wx at hk hHeld ⊢
            refine wpAnyH_ready (rs := [11]) (by kernel_rfl) (by simp) ?_
            refine AllReadyH.cons (o := _) rfl (fun K hK => ?_) AllReadyH.nil
            (try simp only [List.getElem_toArray, List.getElem_cons_succ, List.getElem_cons_zero])
            have hx := (hk.b _ _ _ _ _ rfl).1
            obtain ⟨z0, z1, z2, z3, _⟩ := hx.box
            have f0 := hx.free 0
            have f1 := hx.free 1
            have f2 := hx.free 2
            have f3 := hx.free 3
            clear hx
            go_simp
            have hk2 := hk.setB k2 y2 u2 l2
            unfold put4 at hk2
            refine hK.out _ _ hk2.x.box (fun hHeld => ?_)
            clear hK K hk
            have hk := hk2
            clear hk2
            try simp only [List.getElem_toArray, List.getElem_cons_succ, List.getElem_cons_zero, Act.put, List.setIfInBounds_toArray, List.set_cons_zero, List.set_cons_succ]
            generalize ((((wx.setCell ⟨tb, 0, none⟩ (.int .i64 k2)).setCell ⟨tb, 1, none⟩ (.int .i64 y2)).setCell ⟨tb, 2, none⟩ (.int .i64 u2)).setCell ⟨tb, 3, none⟩ (.int .i64 l2)) = wx at hk hHeld ⊢
            refine wpAnyH_done (by kernel_rfl) ?_ _
            go_wp2_with fail
            go_meet
            exact ⟨_, _, _, _, _, _, _, _, _, _, rfl, rfl, ht1, ht2, hk⟩
        · (try simp only [List.getElem_toArray, List.getElem_cons_succ, List.getElem_cons_zero])
          go_simp
          have hk2 := hk.allocA 0 0 0 0
          generalize wx.heap.size = ta at hk2 ⊢
          refine hK.out _ _ hk2.x.box (fun hHeld => ?_)
          clear hK K hk
          have hk := hk2
          clear hk2
          try simp only [List.getElem_toArray, List.getElem_cons_succ, List.getElem_cons_zero, Act.put, List.setIfInBounds_toArray, List.set_cons_zero, List.set_cons_succ]
          generalize wx.alloc (.cells #[.int .i64 0, .int .i64 0, .int .i64 0, .int .i64 0] 46) = wx at hk hHeld ⊢
          refine wpAnyH_ready (rs := [3]) (by kernel_rfl) (by simp) ?_
          refine AllReadyH.cons (o := _) rfl (fun K hK => ?_) AllReadyH.nil
          (try simp only [List.getElem_toArray, List.getElem_cons_succ, List.getElem_cons_zero])
          go_simp
          go_at_call 42
          refine (cT.out _ _ _ hk).mono ?_
          rintro e wy ⟨⟨k1, y1, u1, l1, rfl, ht1⟩, hk2⟩
          go_wp2_with fail
          refine hK.out _ _ hk2.x.box (fun hHeld => ?_)
          clear hK K hk
          have hk := hk2
          clear hk2
          try simp only [List.getElem_toArray, List.getElem_cons_succ, List.getElem_cons_zero, Act.put, List.setIfInBounds_toArray, List.set_cons_zero, List.set_cons_succ]
          clear hHeld
          have hHeld := hk.x.box
          generalize hwy : wy = wx at hk hHeld ⊢
          clear hwy
          refine wpAnyH_ready (rs := [7]) (by kernel_rfl) (by simp) ?_
          refine AllReadyH.cons (o := _) rfl (fun K hK => ?_) AllReadyH.nil
          (try simp only [List.getElem_toArray, List.getElem_cons_succ, List.getElem_cons_zero])
          go_simp
          go_at_call 42
          refine (cT.out _ _ _ hk).mono ?_
          rintro e wy ⟨⟨k2, y2, u2, l2, rfl, ht2⟩, hk2⟩
          go_wp2_with fail
          refine hK.out _ _ hk2.x.box (fun hHeld => ?_)
          clear hK K hk
          have hk := hk2
          clear hk2
          try simp only [List.getElem_toArray, List.getElem_cons_succ, List.getElem_cons_zero, Act.put, List.setIfInBounds_toArray, List.set_cons_zero, List.set_cons_succ]
          clear hHeld
          have hHeld := hk.x.box
          generalize hwy : wy = wx at hk hHeld ⊢
          clear hwy
          refine wpAnyH_ready (rs := [10]) (by kernel_rfl) (by simp) ?_
          refine AllReadyH.cons (o := _) rfl (fun K hK => ?_) AllReadyH.nil
          (try simp only [List.getElem_toArray, List.getElem_cons_succ, List.getElem_cons_zero])
          have hx := (hk.a _ _ _ _ _ rfl).1
          obtain ⟨z0, z1, z2, z3, _⟩ := hx.box
          have f0 := hx.free 0
          have f1 := hx.free 1
          have f2 := hx.free 2
          have f3 := hx.free 3
          clear hx
          go_simp
          have hk2 := hk.setA k1 y1 u1 l1
          unfold put4 at hk2
          refine hK.out _ _ hk2.x.box (fun hHeld => ?_)
          clear hK K hk
          have hk := hk2
          clear hk2
          try simp only [List.getElem_toArray, List.getElem_cons_succ, List.getElem_cons_zero, Act.put, List.setIfInBounds_toArray, List.set_cons_zero, List.set_cons_succ]
          generalize ((((wx.setCell ⟨ta, 0, none⟩ (.int .i64 k1)).setCell ⟨ta, 1, none⟩ (.int .i64 y1)).setCell ⟨ta, 2, none⟩ (.int .i64 u1)).setCell ⟨ta, 3, none⟩ (.int .i64 l1)) = wx at hk hHeld ⊢
          refine wpAnyH_ready (rs := [11]) (by kernel_rfl) (by simp) ?_
          refine AllReadyH.cons (o := _) rfl (fun K hK => ?_) AllReadyH.nil
          (try simp only [List.getElem_toArray, List.getElem_cons_succ, List.getElem_cons_zero])
          have hx := (hk.b _ _ _ _ _ rfl).1
          obtain ⟨z0, z1, z2, z3, _⟩ := hx.box
          have f0 := hx.free 0
          have f1 := hx.free 1
          have f2 := hx.free 2
          have f3 := hx.free 3
          clear hx
          go_simp
          have hk2 := hk.setB k2 y2 u2 l2
          unfold put4 at hk2
          refine hK.out _ _ hk2.x.box (fun hHeld => ?_)
          clear hK K hk
          have hk := hk2
          clear hk2
          try simp only [List.getElem_toArray, List.getElem_cons_succ, List.getElem_cons_zero, Act.put, List.setIfInBounds_toArray, List.set_cons_zero, List.set_cons_succ]
          generalize ((((wx.setCell ⟨tb, 0, none⟩ (.int .i64 k2)).setCell ⟨tb, 1, none⟩ (.int .i64 y2)).setCell ⟨tb, 2, none⟩ (.int .i64 u2)).setCell ⟨tb, 3, none⟩ (.int .i64 l2)) = wx at hk hHeld ⊢
          refine wpAnyH_done (by kernel_rfl) ?_ _
          go_wp2_with fail
          go_meet
          exact ⟨_, _, _, _, _, _, _, _, _, _, rfl, rfl, ht1, ht2, hk⟩
    case rest =>
      obtain ⟨ta, tb, ka, ya, ua, la, kb, yb, ub, lb, rfl, rfl, hma, hmb, hk⟩ := hcut
      have hsa := made_sound HMG.out hn1 (by omega) hma
      have hsb := made_sound HMG.out hn1 (by omega) hmb
      obtain ⟨S, rfl⟩ := natN (show 0 ≤ s by omega)
      obtain ⟨ka, rfl⟩ := natN (show 0 ≤ ka by have := hma.1.1; omega)
      obtain ⟨kb, rfl⟩ := natN (show 0 ≤ kb by have := hmb.1.1; omega)
      have hpn := pow_mono (show n ≤ 20 by omega)
      have kal : ka < 1048576 := by have := hma.1.2; omega
      have kbl : kb < 1048576 := by have := hmb.1.2; omega
      have hcom := over_com hsa hsb hma hmb hn2
      have hbc := bet_comm (a := ka) (b := kb) (y := ya) (t := ua) (l := la) (y' := yb) (t' := ub) (l' := lb) (by omega) (by omega)
      have t1 : (0 : Int) ≤ ua := hma.2.2.1.1
      have t2 : ua + la ≤ (S : Int) := hma.2.2.2.2
      have t3 : 1 ≤ la := hma.2.2.2.1
      have t4 : (0 : Int) ≤ ub := hmb.2.2.1.1
      have t5 : ub + lb ≤ (S : Int) := hmb.2.2.2.2
      have t6 : 1 ≤ lb := hmb.2.2.2.1
      have cB := fun w => between_any (ka : Int) ya ua la (kb : Int) yb ub lb (by omega) (by omega) w
      have cB2 := fun w => between_any (kb : Int) yb ub lb (ka : Int) ya ua la (by omega) (by omega) w
      have cO := fun w => overlap_any (ka : Int) ya ua la (kb : Int) yb ub lb (by omega) (by omega) w
      have cO2 := fun w => overlap_any (kb : Int) yb ub lb (ka : Int) ya ua la (by omega) (by omega) w
      have cP := fun w => before_any (ka : Int) ya ua la (kb : Int) yb ub lb (by omega) (by omega) w
      have cP2 := fun w => before_any (kb : Int) yb ub lb (ka : Int) ya ua la (by omega) (by omega) w
      have hov : overB (kb : Int) yb ub lb (ka : Int) ya ua la = overB (ka : Int) ya ua la (kb : Int) yb ub lb := by
        unfold overB
        rw [hbc]
      obtain ⟨⟨N, O⟩, hR⟩ : ∃ R, betM (ka : Int) ya ua la (kb : Int) yb ub lb = R := ⟨_, rfl⟩
      obtain ⟨cm, hcm⟩ : ∃ R, overB (ka : Int) ya ua la (kb : Int) yb ub lb = R := ⟨_, rfl⟩
      obtain ⟨P, hP⟩ : ∃ R, befB (ka : Int) ya ua la (kb : Int) yb ub lb = R := ⟨_, rfl⟩
      obtain ⟨P', hP'⟩ : ∃ R, befB (kb : Int) yb ub lb (ka : Int) ya ua la = R := ⟨_, rfl⟩
      have all := hid (stand hcm hR hP hP' t3 t6)
      unfold Says at cB cB2 cO cO2 cP cP2
      rw [hbc, hR] at cB2
      rw [hR] at cB
      rw [hcm] at cO
      rw [hov, hcm] at cO2
      rw [hP] at cP
      rw [hP'] at cP2
      rw [hcm] at hcom
      dsimp only at cB cB2
      have HCOM := hid hcom
      have cBh := hid cB
      have cB2h := hid cB2
      have cOh := hid cO
      have cO2h := hid cO2
      have cPh := hid cP
      have cP2h := hid cP2
      clear cB cB2 cO cO2 cP cP2
      have hS8 : S ≤ 8 := by omega
      have cK' := cK.out
      unfold Says at cK'
      have cKx := hid cK'
      have HBR : Hid (∀ W, RS w1 w.heap.size c A L tg d (S : Int) b m (some (ta, (ka : Int), ya, ua, la)) (some (tb, (kb : Int), yb, ub, lb)) W → Below w.heap.size w W) := hid (fun W hk => by
        obtain ⟨k0, h0⟩ := hk.e
        exact HB.out _ _ h0)
      clear hma hmb hpn cT HW HMG cK cK' HN g1 g2 hn1 hni hgl hsa hsb hcom hbc hR hcm hP hP' hov HB hsz
      obtain ⟨g0, g1, g2, g3, -⟩ := hk.x.box
      obtain ⟨a0, a1, a2, a3, -⟩ := (hk.a _ _ _ _ _ rfl).1.box
      obtain ⟨b0, b1, b2, b3, -⟩ := (hk.b _ _ _ _ _ rfl).1.box
      go_wp2_with fail
      refine (cBh.out _).mono ?_
      rintro e wx ⟨rfl, hb⟩
      have hk2 := hk.below hb
      clear hk hb g0 g1 g2 g3 a0 a1 a2 a3 b0 b1 b2 b3
      have hk := hk2
      clear hk2
      obtain ⟨g0, g1, g2, g3, -⟩ := hk.x.box
      obtain ⟨a0, a1, a2, a3, -⟩ := (hk.a _ _ _ _ _ rfl).1.box
      obtain ⟨b0, b1, b2, b3, -⟩ := (hk.b _ _ _ _ _ rfl).1.box
      go_wp2_with fail
      refine (cB2h.out _).mono ?_
      rintro e wx ⟨rfl, hb⟩
      have hk2 := hk.below hb
      clear hk hb g0 g1 g2 g3 a0 a1 a2 a3 b0 b1 b2 b3
      have hk := hk2
      clear hk2
      clear cBh cB2h
      go_wp2_with fail
      go_loopw [12, 13] (fun cv iv wr => ∃ (i : Nat) (q : Bool), iv = .int .i64 (i : Int) ∧ cv = .bool q ∧ i ≤ n ∧ Hid (q = comB ka kb ya ua la yb ub lb S i 0) ∧ RS w1 w.heap.size c A L tg d (S : Int) b m (some (ta, (ka : Int), ya, ua, la)) (some (tb, (kb : Int), yb, ub, lb)) wr) (fun _ iv _ => n - (RowKit.intOf iv).toNat)
      case atStart => exact ⟨0, false, rfl, rfl, by omega, hid (com_zero S).symm, hk⟩
      case round =>
        clear hk
        obtain ⟨i, q, rfl, rfl, hi, hq, hk⟩ := hrel
        by_cases hlt : i < n
        · have hltz : (i : Int) < (n : Int) := by omega
          go_wp2_with fail
          go_loopw [12, 14] (fun cv jv wz => ∃ (j : Nat) (q : Bool), jv = .int .i64 (j : Int) ∧ cv = .bool q ∧ j ≤ S ∧ Hid (q = comB ka kb ya ua la yb ub lb S i j) ∧ RS w1 w.heap.size c A L tg d (S : Int) b m (some (ta, (ka : Int), ya, ua, la)) (some (tb, (kb : Int), yb, ub, lb)) wz) (fun _ jv _ => S - (RowKit.intOf jv).toNat)
          case atStart => exact ⟨0, q, rfl, rfl, by omega, hq, hk⟩
          case round =>
            clear hk hq
            obtain ⟨j, q, rfl, rfl, hj, hq, hk⟩ := hrel
            obtain ⟨g0, g1, g2, g3, -⟩ := hk.x.box
            by_cases hjl : j < S
            · have hjlz : (j : Int) < (S : Int) := by omega
              have hst : Hid (∀ v, (q || hitB ka kb ya ua la yb ub lb i j) = v → v = comB ka kb ya ua la yb ub lb S i (j + 1)) := hid (fun v hv => by rw [com_slot, ← hq.out, hv])
              obtain ⟨a0, a1, a2, a3, -⟩ := (hk.a _ _ _ _ _ rfl).1.box
              obtain ⟨b0, b1, b2, b3, -⟩ := (hk.b _ _ _ _ _ rfl).1.box
              cases q with
              | true =>
                as_aux_lemma =>
                  have hnx := hid (hst.out true (by rfl))
                  have HK := hid hk
                  clear hst hk hq
                  go_wp2
                  go_roundw
                  case rel => exact ⟨j + 1, true, by go_num, rfl, by omega, hnx, HK.out⟩
                  case measure => simp [RowKit.intOf]; omega
              | false =>
                cases e1 : bitB ka i with
                | false =>
                  have f1 := bit_no (show ka < 9223372036854775808 by omega) e1
                  as_aux_lemma =>
                    have hnx := hid (hst.out false (by unfold hitB; simp [e1]))
                    have HK := hid hk
                    clear hst hk hq
                    go_wp2
                    go_roundw
                    case rel => exact ⟨j + 1, false, by go_num, rfl, by omega, hnx, HK.out⟩
                    case measure => simp [RowKit.intOf]; omega
                | true =>
                  have f1 := bit_yes (show ka < 9223372036854775808 by omega) e1
                  cases e2 : bitB kb i with
                  | false =>
                    have f2 := bit_no (show kb < 9223372036854775808 by omega) e2
                    as_aux_lemma =>
                      have hnx := hid (hst.out false (by unfold hitB; simp [e2]))
                      have HK := hid hk
                      clear hst hk hq
                      go_wp2
                      go_roundw
                      case rel => exact ⟨j + 1, false, by go_num, rfl, by omega, hnx, HK.out⟩
                      case measure => simp [RowKit.intOf]; omega
                  | true =>
                    have f2 := bit_yes (show kb < 9223372036854775808 by omega) e2
                    by_cases e3 : ya = yb
                    · have f3 : (ya == yb) = true := by simpa using e3
                      have e3h := hid e3
                      clear e3
                      by_cases e4 : ua ≤ (j : Int)
                      · have fe4 : decide (ua ≤ (j : Int)) = true := decide_eq_true e4
                        by_cases e5 : (j : Int) < ua + la
                        · have fe5 : decide ((j : Int) < ua + la) = true := decide_eq_true e5
                          by_cases e6 : ub ≤ (j : Int)
                          · have fe6 : decide (ub ≤ (j : Int)) = true := decide_eq_true e6
                            by_cases e7 : (j : Int) < ub + lb
                            · have fe7 : decide ((j : Int) < ub + lb) = true := decide_eq_true e7
                              as_aux_lemma =>
                                have hnx := hid (hst.out true (by unfold hitB; simp [e1, e2, e3h.out, e4, e5, e6, e7]))
                                have HK := hid hk
                                clear hst hk hq
                                go_wp2
                                go_roundw
                                case rel => exact ⟨j + 1, true, by go_num, rfl, by omega, hnx, HK.out⟩
                                case measure => simp [RowKit.intOf]; omega
                            · have fe7 : decide ((j : Int) < ub + lb) = false := decide_eq_false e7
                              as_aux_lemma =>
                                have hnx := hid (hst.out false (by unfold hitB; simp [e7]))
                                have HK := hid hk
                                clear hst hk hq
                                go_wp2
                                go_roundw
                                case rel => exact ⟨j + 1, false, by go_num, rfl, by omega, hnx, HK.out⟩
                                case measure => simp [RowKit.intOf]; omega
                          · have fe6 : decide (ub ≤ (j : Int)) = false := decide_eq_false e6
                            as_aux_lemma =>
                              have hnx := hid (hst.out false (by unfold hitB; simp [e6]))
                              have HK := hid hk
                              clear hst hk hq
                              go_wp2
                              go_roundw
                              case rel => exact ⟨j + 1, false, by go_num, rfl, by omega, hnx, HK.out⟩
                              case measure => simp [RowKit.intOf]; omega
                        · have fe5 : decide ((j : Int) < ua + la) = false := decide_eq_false e5
                          as_aux_lemma =>
                            have hnx := hid (hst.out false (by unfold hitB; simp [e5]))
                            have HK := hid hk
                            clear hst hk hq
                            go_wp2
                            go_roundw
                            case rel => exact ⟨j + 1, false, by go_num, rfl, by omega, hnx, HK.out⟩
                            case measure => simp [RowKit.intOf]; omega
                      · have fe4 : decide (ua ≤ (j : Int)) = false := decide_eq_false e4
                        as_aux_lemma =>
                          have hnx := hid (hst.out false (by unfold hitB; simp [e4]))
                          have HK := hid hk
                          clear hst hk hq
                          go_wp2
                          go_roundw
                          case rel => exact ⟨j + 1, false, by go_num, rfl, by omega, hnx, HK.out⟩
                          case measure => simp [RowKit.intOf]; omega
                    · have f3 : (ya == yb) = false := by simpa using e3
                      as_aux_lemma =>
                        have hnx := hid (hst.out false (by unfold hitB; simp [e3]))
                        have HK := hid hk
                        clear hst hk hq
                        go_wp2
                        go_roundw
                        case rel => exact ⟨j + 1, false, by go_num, rfl, by omega, hnx, HK.out⟩
                        case measure => simp [RowKit.intOf]; omega
            · have hjlz : ¬ (j : Int) < (S : Int) := by omega
              obtain rfl : j = S := by omega
              have hnx := hid (hq.out.trans (com_row j i).symm)
              have HK := hid hk
              clear hq hk
              as_aux_lemma =>
                go_wp2
                go_roundw
                case rel => exact ⟨i + 1, q, by go_num, rfl, by omega, hnx, HK.out⟩
                case measure => simp [RowKit.intOf]; omega
        · have hltz : ¬ (i : Int) < (n : Int) := by omega
          obtain rfl : i = n := by omega
          obtain rfl : q = cm := by rw [hq.out, HCOM.out]
          have hal := all.out
          clear hq all HCOM
          rcases hal with ⟨rfl, rfl, rfl, hpp⟩ | ⟨rfl, rfl, rfl, hy, rfl⟩ | ⟨rfl, hN, rfl, hy, hpp⟩
          · rcases hpp with rfl | ⟨rfl, rfl⟩
            · by_cases hy : ya = yb
              · have fy : (ya != yb) = false := by simpa using hy
                clear hy
                as_aux_lemma =>
                  obtain ⟨g0, g1, g2, g3, -⟩ := hk.x.box
                  obtain ⟨a0, a1, a2, a3, -⟩ := (hk.a _ _ _ _ _ rfl).1.box
                  obtain ⟨b0, b1, b2, b3, -⟩ := (hk.b _ _ _ _ _ rfl).1.box
                  go_wp2_with fail
                  refine (cKx.out _ (HBR.out _ hk)).mono ?_
                  rintro e wx ⟨rfl, hb⟩
                  have hk2 := hk.below hb
                  clear hk hb g0 g1 g2 g3 a0 a1 a2 a3 b0 b1 b2 b3
                  have hk := hk2
                  clear hk2
                  obtain ⟨g0, g1, g2, g3, -⟩ := hk.x.box
                  obtain ⟨a0, a1, a2, a3, -⟩ := (hk.a _ _ _ _ _ rfl).1.box
                  obtain ⟨b0, b1, b2, b3, -⟩ := (hk.b _ _ _ _ _ rfl).1.box
                  go_wp2_with fail
                  refine (cOh.out _).mono ?_
                  rintro e wx ⟨rfl, hb⟩
                  have hk2 := hk.below hb
                  clear hk hb g0 g1 g2 g3 a0 a1 a2 a3 b0 b1 b2 b3
                  have hk := hk2
                  clear hk2
                  obtain ⟨g0, g1, g2, g3, -⟩ := hk.x.box
                  obtain ⟨a0, a1, a2, a3, -⟩ := (hk.a _ _ _ _ _ rfl).1.box
                  obtain ⟨b0, b1, b2, b3, -⟩ := (hk.b _ _ _ _ _ rfl).1.box
                  go_wp2_with fail
                  refine (cO2h.out _).mono ?_
                  rintro e wx ⟨rfl, hb⟩
                  have hk2 := hk.below hb
                  clear hk hb g0 g1 g2 g3 a0 a1 a2 a3 b0 b1 b2 b3
                  have hk := hk2
                  clear hk2
                  obtain ⟨g0, g1, g2, g3, -⟩ := hk.x.box
                  obtain ⟨a0, a1, a2, a3, -⟩ := (hk.a _ _ _ _ _ rfl).1.box
                  obtain ⟨b0, b1, b2, b3, -⟩ := (hk.b _ _ _ _ _ rfl).1.box
                  go_wp2_with fail
                  refine (cPh.out _).mono ?_
                  rintro e wx ⟨rfl, hb⟩
                  have hk2 := hk.below hb
                  clear hk hb g0 g1 g2 g3 a0 a1 a2 a3 b0 b1 b2 b3
                  have hk := hk2
                  clear hk2
                  obtain ⟨g0, g1, g2, g3, -⟩ := hk.x.box
                  obtain ⟨a0, a1, a2, a3, -⟩ := (hk.a _ _ _ _ _ rfl).1.box
                  obtain ⟨b0, b1, b2, b3, -⟩ := (hk.b _ _ _ _ _ rfl).1.box
                  go_wp2
                  go_ret
                  exact ⟨rfl, HBR.out _ hk⟩
              · have fy : (ya != yb) = true := by simpa using hy
                as_aux_lemma =>
                  obtain ⟨g0, g1, g2, g3, -⟩ := hk.x.box
                  obtain ⟨a0, a1, a2, a3, -⟩ := (hk.a _ _ _ _ _ rfl).1.box
                  obtain ⟨b0, b1, b2, b3, -⟩ := (hk.b _ _ _ _ _ rfl).1.box
                  go_wp2_with fail
                  refine (cKx.out _ (HBR.out _ hk)).mono ?_
                  rintro e wx ⟨rfl, hb⟩
                  have hk2 := hk.below hb
                  clear hk hb g0 g1 g2 g3 a0 a1 a2 a3 b0 b1 b2 b3
                  have hk := hk2
                  clear hk2
                  obtain ⟨g0, g1, g2, g3, -⟩ := hk.x.box
                  obtain ⟨a0, a1, a2, a3, -⟩ := (hk.a _ _ _ _ _ rfl).1.box
                  obtain ⟨b0, b1, b2, b3, -⟩ := (hk.b _ _ _ _ _ rfl).1.box
                  go_wp2_with fail
                  refine (cOh.out _).mono ?_
                  rintro e wx ⟨rfl, hb⟩
                  have hk2 := hk.below hb
                  clear hk hb g0 g1 g2 g3 a0 a1 a2 a3 b0 b1 b2 b3
                  have hk := hk2
                  clear hk2
                  obtain ⟨g0, g1, g2, g3, -⟩ := hk.x.box
                  obtain ⟨a0, a1, a2, a3, -⟩ := (hk.a _ _ _ _ _ rfl).1.box
                  obtain ⟨b0, b1, b2, b3, -⟩ := (hk.b _ _ _ _ _ rfl).1.box
                  go_wp2_with fail
                  refine (cO2h.out _).mono ?_
                  rintro e wx ⟨rfl, hb⟩
                  have hk2 := hk.below hb
                  clear hk hb g0 g1 g2 g3 a0 a1 a2 a3 b0 b1 b2 b3
                  have hk := hk2
                  clear hk2
                  obtain ⟨g0, g1, g2, g3, -⟩ := hk.x.box
                  obtain ⟨a0, a1, a2, a3, -⟩ := (hk.a _ _ _ _ _ rfl).1.box
                  obtain ⟨b0, b1, b2, b3, -⟩ := (hk.b _ _ _ _ _ rfl).1.box
                  go_wp2_with fail
                  refine (cPh.out _).mono ?_
                  rintro e wx ⟨rfl, hb⟩
                  have hk2 := hk.below hb
                  clear hk hb g0 g1 g2 g3 a0 a1 a2 a3 b0 b1 b2 b3
                  have hk := hk2
                  clear hk2
                  obtain ⟨g0, g1, g2, g3, -⟩ := hk.x.box
                  obtain ⟨a0, a1, a2, a3, -⟩ := (hk.a _ _ _ _ _ rfl).1.box
                  obtain ⟨b0, b1, b2, b3, -⟩ := (hk.b _ _ _ _ _ rfl).1.box
                  go_wp2
                  go_ret
                  exact ⟨rfl, HBR.out _ hk⟩
            · by_cases hy : ya = yb
              · have fy : (ya != yb) = false := by simpa using hy
                clear hy
                as_aux_lemma =>
                  obtain ⟨g0, g1, g2, g3, -⟩ := hk.x.box
                  obtain ⟨a0, a1, a2, a3, -⟩ := (hk.a _ _ _ _ _ rfl).1.box
                  obtain ⟨b0, b1, b2, b3, -⟩ := (hk.b _ _ _ _ _ rfl).1.box
                  go_wp2_with fail
                  refine (cKx.out _ (HBR.out _ hk)).mono ?_
                  rintro e wx ⟨rfl, hb⟩
                  have hk2 := hk.below hb
                  clear hk hb g0 g1 g2 g3 a0 a1 a2 a3 b0 b1 b2 b3
                  have hk := hk2
                  clear hk2
                  obtain ⟨g0, g1, g2, g3, -⟩ := hk.x.box
                  obtain ⟨a0, a1, a2, a3, -⟩ := (hk.a _ _ _ _ _ rfl).1.box
                  obtain ⟨b0, b1, b2, b3, -⟩ := (hk.b _ _ _ _ _ rfl).1.box
                  go_wp2_with fail
                  refine (cOh.out _).mono ?_
                  rintro e wx ⟨rfl, hb⟩
                  have hk2 := hk.below hb
                  clear hk hb g0 g1 g2 g3 a0 a1 a2 a3 b0 b1 b2 b3
                  have hk := hk2
                  clear hk2
                  obtain ⟨g0, g1, g2, g3, -⟩ := hk.x.box
                  obtain ⟨a0, a1, a2, a3, -⟩ := (hk.a _ _ _ _ _ rfl).1.box
                  obtain ⟨b0, b1, b2, b3, -⟩ := (hk.b _ _ _ _ _ rfl).1.box
                  go_wp2_with fail
                  refine (cO2h.out _).mono ?_
                  rintro e wx ⟨rfl, hb⟩
                  have hk2 := hk.below hb
                  clear hk hb g0 g1 g2 g3 a0 a1 a2 a3 b0 b1 b2 b3
                  have hk := hk2
                  clear hk2
                  obtain ⟨g0, g1, g2, g3, -⟩ := hk.x.box
                  obtain ⟨a0, a1, a2, a3, -⟩ := (hk.a _ _ _ _ _ rfl).1.box
                  obtain ⟨b0, b1, b2, b3, -⟩ := (hk.b _ _ _ _ _ rfl).1.box
                  go_wp2_with fail
                  refine (cPh.out _).mono ?_
                  rintro e wx ⟨rfl, hb⟩
                  have hk2 := hk.below hb
                  clear hk hb g0 g1 g2 g3 a0 a1 a2 a3 b0 b1 b2 b3
                  have hk := hk2
                  clear hk2
                  obtain ⟨g0, g1, g2, g3, -⟩ := hk.x.box
                  obtain ⟨a0, a1, a2, a3, -⟩ := (hk.a _ _ _ _ _ rfl).1.box
                  obtain ⟨b0, b1, b2, b3, -⟩ := (hk.b _ _ _ _ _ rfl).1.box
                  go_wp2_with fail
                  refine (cP2h.out _).mono ?_
                  rintro e wx ⟨rfl, hb⟩
                  have hk2 := hk.below hb
                  clear hk hb g0 g1 g2 g3 a0 a1 a2 a3 b0 b1 b2 b3
                  have hk := hk2
                  clear hk2
                  obtain ⟨g0, g1, g2, g3, -⟩ := hk.x.box
                  obtain ⟨a0, a1, a2, a3, -⟩ := (hk.a _ _ _ _ _ rfl).1.box
                  obtain ⟨b0, b1, b2, b3, -⟩ := (hk.b _ _ _ _ _ rfl).1.box
                  go_wp2
                  go_ret
                  exact ⟨rfl, HBR.out _ hk⟩
              · have fy : (ya != yb) = true := by simpa using hy
                as_aux_lemma =>
                  obtain ⟨g0, g1, g2, g3, -⟩ := hk.x.box
                  obtain ⟨a0, a1, a2, a3, -⟩ := (hk.a _ _ _ _ _ rfl).1.box
                  obtain ⟨b0, b1, b2, b3, -⟩ := (hk.b _ _ _ _ _ rfl).1.box
                  go_wp2_with fail
                  refine (cKx.out _ (HBR.out _ hk)).mono ?_
                  rintro e wx ⟨rfl, hb⟩
                  have hk2 := hk.below hb
                  clear hk hb g0 g1 g2 g3 a0 a1 a2 a3 b0 b1 b2 b3
                  have hk := hk2
                  clear hk2
                  obtain ⟨g0, g1, g2, g3, -⟩ := hk.x.box
                  obtain ⟨a0, a1, a2, a3, -⟩ := (hk.a _ _ _ _ _ rfl).1.box
                  obtain ⟨b0, b1, b2, b3, -⟩ := (hk.b _ _ _ _ _ rfl).1.box
                  go_wp2_with fail
                  refine (cOh.out _).mono ?_
                  rintro e wx ⟨rfl, hb⟩
                  have hk2 := hk.below hb
                  clear hk hb g0 g1 g2 g3 a0 a1 a2 a3 b0 b1 b2 b3
                  have hk := hk2
                  clear hk2
                  obtain ⟨g0, g1, g2, g3, -⟩ := hk.x.box
                  obtain ⟨a0, a1, a2, a3, -⟩ := (hk.a _ _ _ _ _ rfl).1.box
                  obtain ⟨b0, b1, b2, b3, -⟩ := (hk.b _ _ _ _ _ rfl).1.box
                  go_wp2_with fail
                  refine (cO2h.out _).mono ?_
                  rintro e wx ⟨rfl, hb⟩
                  have hk2 := hk.below hb
                  clear hk hb g0 g1 g2 g3 a0 a1 a2 a3 b0 b1 b2 b3
                  have hk := hk2
                  clear hk2
                  obtain ⟨g0, g1, g2, g3, -⟩ := hk.x.box
                  obtain ⟨a0, a1, a2, a3, -⟩ := (hk.a _ _ _ _ _ rfl).1.box
                  obtain ⟨b0, b1, b2, b3, -⟩ := (hk.b _ _ _ _ _ rfl).1.box
                  go_wp2_with fail
                  refine (cPh.out _).mono ?_
                  rintro e wx ⟨rfl, hb⟩
                  have hk2 := hk.below hb
                  clear hk hb g0 g1 g2 g3 a0 a1 a2 a3 b0 b1 b2 b3
                  have hk := hk2
                  clear hk2
                  obtain ⟨g0, g1, g2, g3, -⟩ := hk.x.box
                  obtain ⟨a0, a1, a2, a3, -⟩ := (hk.a _ _ _ _ _ rfl).1.box
                  obtain ⟨b0, b1, b2, b3, -⟩ := (hk.b _ _ _ _ _ rfl).1.box
                  go_wp2_with fail
                  refine (cP2h.out _).mono ?_
                  rintro e wx ⟨rfl, hb⟩
                  have hk2 := hk.below hb
                  clear hk hb g0 g1 g2 g3 a0 a1 a2 a3 b0 b1 b2 b3
                  have hk := hk2
                  clear hk2
                  obtain ⟨g0, g1, g2, g3, -⟩ := hk.x.box
                  obtain ⟨a0, a1, a2, a3, -⟩ := (hk.a _ _ _ _ _ rfl).1.box
                  obtain ⟨b0, b1, b2, b3, -⟩ := (hk.b _ _ _ _ _ rfl).1.box
                  go_wp2
                  go_ret
                  exact ⟨rfl, HBR.out _ hk⟩
          · have fy : (ya != yb) = false := by simpa using hy
            clear hy
            as_aux_lemma =>
              obtain ⟨g0, g1, g2, g3, -⟩ := hk.x.box
              obtain ⟨a0, a1, a2, a3, -⟩ := (hk.a _ _ _ _ _ rfl).1.box
              obtain ⟨b0, b1, b2, b3, -⟩ := (hk.b _ _ _ _ _ rfl).1.box
              go_wp2_with fail
              refine (cKx.out _ (HBR.out _ hk)).mono ?_
              rintro e wx ⟨rfl, hb⟩
              have hk2 := hk.below hb
              clear hk hb g0 g1 g2 g3 a0 a1 a2 a3 b0 b1 b2 b3
              have hk := hk2
              clear hk2
              obtain ⟨g0, g1, g2, g3, -⟩ := hk.x.box
              obtain ⟨a0, a1, a2, a3, -⟩ := (hk.a _ _ _ _ _ rfl).1.box
              obtain ⟨b0, b1, b2, b3, -⟩ := (hk.b _ _ _ _ _ rfl).1.box
              go_wp2_with fail
              refine (cOh.out _).mono ?_
              rintro e wx ⟨rfl, hb⟩
              have hk2 := hk.below hb
              clear hk hb g0 g1 g2 g3 a0 a1 a2 a3 b0 b1 b2 b3
              have hk := hk2
              clear hk2
              obtain ⟨g0, g1, g2, g3, -⟩ := hk.x.box
              obtain ⟨a0, a1, a2, a3, -⟩ := (hk.a _ _ _ _ _ rfl).1.box
              obtain ⟨b0, b1, b2, b3, -⟩ := (hk.b _ _ _ _ _ rfl).1.box
              go_wp2_with fail
              refine (cO2h.out _).mono ?_
              rintro e wx ⟨rfl, hb⟩
              have hk2 := hk.below hb
              clear hk hb g0 g1 g2 g3 a0 a1 a2 a3 b0 b1 b2 b3
              have hk := hk2
              clear hk2
              obtain ⟨g0, g1, g2, g3, -⟩ := hk.x.box
              obtain ⟨a0, a1, a2, a3, -⟩ := (hk.a _ _ _ _ _ rfl).1.box
              obtain ⟨b0, b1, b2, b3, -⟩ := (hk.b _ _ _ _ _ rfl).1.box
              go_wp2_with fail
              refine (cPh.out _).mono ?_
              rintro e wx ⟨rfl, hb⟩
              have hk2 := hk.below hb
              clear hk hb g0 g1 g2 g3 a0 a1 a2 a3 b0 b1 b2 b3
              have hk := hk2
              clear hk2
              obtain ⟨g0, g1, g2, g3, -⟩ := hk.x.box
              obtain ⟨a0, a1, a2, a3, -⟩ := (hk.a _ _ _ _ _ rfl).1.box
              obtain ⟨b0, b1, b2, b3, -⟩ := (hk.b _ _ _ _ _ rfl).1.box
              go_wp2_with fail
              refine (cPh.out _).mono ?_
              rintro e wx ⟨rfl, hb⟩
              have hk2 := hk.below hb
              clear hk hb g0 g1 g2 g3 a0 a1 a2 a3 b0 b1 b2 b3
              have hk := hk2
              clear hk2
              obtain ⟨g0, g1, g2, g3, -⟩ := hk.x.box
              obtain ⟨a0, a1, a2, a3, -⟩ := (hk.a _ _ _ _ _ rfl).1.box
              obtain ⟨b0, b1, b2, b3, -⟩ := (hk.b _ _ _ _ _ rfl).1.box
              go_wp2
              go_ret
              exact ⟨rfl, HBR.out _ hk⟩
          · have fy : (ya != yb) = false := by simpa using hy
            clear hy
            have fN : (N == -1) = false := by simpa using hN
            have fN2 : (N != -1) = true := by simpa using hN
            clear hN
            rcases hpp with rfl | ⟨rfl, rfl⟩
            · as_aux_lemma =>
                obtain ⟨g0, g1, g2, g3, -⟩ := hk.x.box
                obtain ⟨a0, a1, a2, a3, -⟩ := (hk.a _ _ _ _ _ rfl).1.box
                obtain ⟨b0, b1, b2, b3, -⟩ := (hk.b _ _ _ _ _ rfl).1.box
                go_wp2_with fail
                refine (cKx.out _ (HBR.out _ hk)).mono ?_
                rintro e wx ⟨rfl, hb⟩
                have hk2 := hk.below hb
                clear hk hb g0 g1 g2 g3 a0 a1 a2 a3 b0 b1 b2 b3
                have hk := hk2
                clear hk2
                obtain ⟨g0, g1, g2, g3, -⟩ := hk.x.box
                obtain ⟨a0, a1, a2, a3, -⟩ := (hk.a _ _ _ _ _ rfl).1.box
                obtain ⟨b0, b1, b2, b3, -⟩ := (hk.b _ _ _ _ _ rfl).1.box
                go_wp2_with fail
                refine (cOh.out _).mono ?_
                rintro e wx ⟨rfl, hb⟩
                have hk2 := hk.below hb
                clear hk hb g0 g1 g2 g3 a0 a1 a2 a3 b0 b1 b2 b3
                have hk := hk2
                clear hk2
                obtain ⟨g0, g1, g2, g3, -⟩ := hk.x.box
                obtain ⟨a0, a1, a2, a3, -⟩ := (hk.a _ _ _ _ _ rfl).1.box
                obtain ⟨b0, b1, b2, b3, -⟩ := (hk.b _ _ _ _ _ rfl).1.box
                go_wp2_with fail
                refine (cO2h.out _).mono ?_
                rintro e wx ⟨rfl, hb⟩
                have hk2 := hk.below hb
                clear hk hb g0 g1 g2 g3 a0 a1 a2 a3 b0 b1 b2 b3
                have hk := hk2
                clear hk2
                obtain ⟨g0, g1, g2, g3, -⟩ := hk.x.box
                obtain ⟨a0, a1, a2, a3, -⟩ := (hk.a _ _ _ _ _ rfl).1.box
                obtain ⟨b0, b1, b2, b3, -⟩ := (hk.b _ _ _ _ _ rfl).1.box
                go_wp2_with fail
                refine (cPh.out _).mono ?_
                rintro e wx ⟨rfl, hb⟩
                have hk2 := hk.below hb
                clear hk hb g0 g1 g2 g3 a0 a1 a2 a3 b0 b1 b2 b3
                have hk := hk2
                clear hk2
                obtain ⟨g0, g1, g2, g3, -⟩ := hk.x.box
                obtain ⟨a0, a1, a2, a3, -⟩ := (hk.a _ _ _ _ _ rfl).1.box
                obtain ⟨b0, b1, b2, b3, -⟩ := (hk.b _ _ _ _ _ rfl).1.box
                go_wp2
                go_ret
                exact ⟨rfl, HBR.out _ hk⟩
            · as_aux_lemma =>
                obtain ⟨g0, g1, g2, g3, -⟩ := hk.x.box
                obtain ⟨a0, a1, a2, a3, -⟩ := (hk.a _ _ _ _ _ rfl).1.box
                obtain ⟨b0, b1, b2, b3, -⟩ := (hk.b _ _ _ _ _ rfl).1.box
                go_wp2_with fail
                refine (cKx.out _ (HBR.out _ hk)).mono ?_
                rintro e wx ⟨rfl, hb⟩
                have hk2 := hk.below hb
                clear hk hb g0 g1 g2 g3 a0 a1 a2 a3 b0 b1 b2 b3
                have hk := hk2
                clear hk2
                obtain ⟨g0, g1, g2, g3, -⟩ := hk.x.box
                obtain ⟨a0, a1, a2, a3, -⟩ := (hk.a _ _ _ _ _ rfl).1.box
                obtain ⟨b0, b1, b2, b3, -⟩ := (hk.b _ _ _ _ _ rfl).1.box
                go_wp2_with fail
                refine (cOh.out _).mono ?_
                rintro e wx ⟨rfl, hb⟩
                have hk2 := hk.below hb
                clear hk hb g0 g1 g2 g3 a0 a1 a2 a3 b0 b1 b2 b3
                have hk := hk2
                clear hk2
                obtain ⟨g0, g1, g2, g3, -⟩ := hk.x.box
                obtain ⟨a0, a1, a2, a3, -⟩ := (hk.a _ _ _ _ _ rfl).1.box
                obtain ⟨b0, b1, b2, b3, -⟩ := (hk.b _ _ _ _ _ rfl).1.box
                go_wp2_with fail
                refine (cO2h.out _).mono ?_
                rintro e wx ⟨rfl, hb⟩
                have hk2 := hk.below hb
                clear hk hb g0 g1 g2 g3 a0 a1 a2 a3 b0 b1 b2 b3
                have hk := hk2
                clear hk2
                obtain ⟨g0, g1, g2, g3, -⟩ := hk.x.box
                obtain ⟨a0, a1, a2, a3, -⟩ := (hk.a _ _ _ _ _ rfl).1.box
                obtain ⟨b0, b1, b2, b3, -⟩ := (hk.b _ _ _ _ _ rfl).1.box
                go_wp2_with fail
                refine (cPh.out _).mono ?_
                rintro e wx ⟨rfl, hb⟩
                have hk2 := hk.below hb
                clear hk hb g0 g1 g2 g3 a0 a1 a2 a3 b0 b1 b2 b3
                have hk := hk2
                clear hk2
                obtain ⟨g0, g1, g2, g3, -⟩ := hk.x.box
                obtain ⟨a0, a1, a2, a3, -⟩ := (hk.a _ _ _ _ _ rfl).1.box
                obtain ⟨b0, b1, b2, b3, -⟩ := (hk.b _ _ _ _ _ rfl).1.box
                go_wp2_with fail
                refine (cP2h.out _).mono ?_
                rintro e wx ⟨rfl, hb⟩
                have hk2 := hk.below hb
                clear hk hb g0 g1 g2 g3 a0 a1 a2 a3 b0 b1 b2 b3
                have hk := hk2
                clear hk2
                obtain ⟨g0, g1, g2, g3, -⟩ := hk.x.box
                obtain ⟨a0, a1, a2, a3, -⟩ := (hk.a _ _ _ _ _ rfl).1.box
                obtain ⟨b0, b1, b2, b3, -⟩ := (hk.b _ _ _ _ _ rfl).1.box
                go_wp2
                go_ret
                exact ⟨rfl, HBR.out _ hk⟩
  · rw [decide_eq_false hl] at cL
    clear hE hDy h
    go_enter Tryd.func11, Tryd.ntmps11
    go_wp2_with fail
    refine cL.mono ?_
    rintro e w' ⟨rfl, rfl⟩
    go_wp2_with fail
    refine (cK.out _ (Below.refl _ _)).mono ?_
    rintro e w1 ⟨rfl, hb1⟩
    have HB1 := hid hb1
    clear hb1
    go_wp2
    go_ret
    exact ⟨rfl, HB1.out⟩
end Go.Proofs.YtaijbdknaeeoeaaDoor
