/-
  The walk of TimegridTimesMade. Conditions: the numbers lie in memory as a slice of ints; the variables hold what their text lays.
-/
import Derived.Test.YtibbiddadkinhaaDoorHT01
import Derived.Test.YtibbiddadkinhaaDoorHT02
import Derived.Test.YtibbiddadkinhaaDoorHT03
import Derived.Test.YtibbiddadkinhaaDoorHT04
import Derived.Test.YtibbiddadkinhaaDoorHT05
import Derived.Test.YtibbiddadkinhaaDoorHT06
import Derived.Test.YtibbiddadkinhaaDoorHT07
import Derived.Test.YtibbiddadkinhaaDoorHT08
import Derived.Test.YtibbiddadkinhaaDoorHT09
import Derived.Test.YtibbiddadkinhaaDoorHT10
import Derived.Test.YtibbiddadkinhaaDoorHR01
import Derived.Test.YtibbiddadkinhaaDoorHR02
import Derived.Test.YtibbiddadkinhaaDoorHR03
import Derived.Test.YtibbiddadkinhaaDoorHR04
import Derived.Test.YtibbiddadkinhaaDoorHR05
import Derived.Test.YtibbiddadkinhaaDoorHM01
import Derived.Test.YtibbiddadkinhaaDoorProg
import Derived.WalkKit
import Derived.WalkSpells
import Derived.WalkLawsBesides
import Derived.Lib.Hide
import Derived.Deep.QuietTactic
import Derived.BigQuiet
import Derived.Laws.Rows
import Derived.OwnWalk
import Derived.Lib.BufferWrite
import Derived.Lib.UnsafeStr
import Derived.Laws.IdiomStrings
import Derived.Laws.BytesArg
import Derived.Laws.BytesString
import Derived.Laws.OwnMore
import Derived.Handy
import Derived.Laws.ResultCell
import Derived.Laws.BitsAllLaws
import Derived.Laws.BitsLemmas
import Derived.Lib.IndexLaws
import Derived.Lib.ItoaNum
import Derived.Lib.Atoi
import Derived.Deep.RegionLaw
import Derived.Deep.RegionHeld3
import Derived.Deep.MidRow
import Derived.Shelf.Strings.Builder1
import Derived.Shelf.Strings.Builder2
import Derived.Shelf.Strings.OnBuilder
import Derived.Shelf.Strings.BuilderF
import Derived.Shelf.Strings.BuilderK
import Derived.Shelf.Strings.Builder2Cap
import Derived.Shelf.Strconv.Atoi
import Derived.Shelf.Strconv.Itoa0
import Derived.Shelf.Strconv.Itoa1
import Derived.Shelf.LaysM
import Derived.Shelf.Strconv.Itoa2
import Derived.Shelf.Strconv.Itoa3
import Derived.Shelf.Strconv.AtoiErrFast
import Derived.Shelf.Strconv.ParseIntEmpty
import Derived.Shelf.Strconv.AtoiFail
import Derived.Shelf.Strconv.Clone
import Derived.Shelf.Strconv.SyntaxError
import Derived.Shelf.LaysC
import Derived.Shelf.Strconv.ToError
import Derived.Shelf.Strconv.AtoiErr
import Derived.Shelf.Strings.Search1
import Derived.Shelf.Strings.Search2
import Derived.Shelf.Strings.Search3
import Derived.Shelf.Strings.Cut
import Derived.Shelf.Strings.Shaped
import Derived.Shelf.Strings.Prefix
import Derived.Shelf.Unicode.DecodeSlow
import Derived.Shelf.Strings.BuilderCap
import Derived.Lib.AtoiErrMem
import Derived.RangeFuncNested
import Derived.RangeFuncBound
import Derived.RangeFuncCalls
import Derived.RangeFuncLeaves
import Derived.Shelf.Abstract
import Derived.Shelf.RegionOpen
import Derived.OwnWalkIn
import Derived.TacticsInMore
import Derived.LoopNIn
import Derived.LoopIn
import Derived.BigRegion
import Derived.Deep.DeepCutAuto
import Derived.Deep.CutBlock
set_option linter.unusedVariables false
namespace Go.Proofs.YtibbiddadkinhaaDoor
open Go Go.Proofs Go.RowKit Go.Lib

set_option maxHeartbeats 16000000 in
set_option maxRecDepth 100000 in
theorem tmade_any (A : Option Addr) (L : List Int) (c : Nat) (hlen : L.length ≤ 9223372036854775807) (w : World) (hE : Env w) (hDy : Days w) (h : IntsIn w w.heap.size A L) :
    Calls Tryd.prog 4 #[.slice A L.length c] w fun e w' => e = .returned (.bool true) ∧ Below w.heap.size w w' := by
  have cL := light_any A L.length c w
  have hsz := hE.size
  have HE := hid (fun w' (hb : Below w.heap.size w w') => hE.below hb hsz)
  have HDY := hid (fun w' (hb : Below w.heap.size w w') => hDy.below hb hsz)
  have cK := hid (fun w' (hb : Below w.heap.size w w') => tawake_any w' (hE.below hb hsz) (hDy.below hb hsz))
  have cK' := cK.out
  unfold Says at cK'
  have cK := hid cK'
  clear cK'
  by_cases hl : L.length ≤ 400
  · rw [decide_eq_true hl] at cL
    have cR := hid (fun w h => roll_any A L c hl w h)
    have HI := hid h
    clear hE hDy h
    go_enter Tryd.func4, Tryd.ntmps4
    go_wp2_with fail
    refine cL.mono ?_
    rintro e w' ⟨rfl, rfl⟩
    go_wp2_with fail
    refine (cR.out _ HI.out).mono ?_
    rintro e w1 ⟨rfl, hd1, hb1⟩
    have hgl := hd1.lt
    have HB : Hid (∀ W k, DE w1 w.heap.size c A L k W → Below w.heap.size w W) := hid (fun W k he => hb1.trans (he.toBelow (Nat.le_of_lt hgl) (Nat.le_refl _)))
    have cG := hid (grid_any w.heap.size c 0 A L w1 hd1)
    clear hd1 hb1 cL cR HI
    go_wp2_with fail
    refine cG.out.mono ?_
    rintro e w2 ⟨d, s, b, m, k2, rfl, hmg, he2⟩
    have HN := hid (fun (W : World) k n hn (h : DiceAt W w.heap.size A L c k) => next_at w.heap.size c k A L n hn W h)
    have cN := HN.out _ _ 8 (by omega) he2.d
    obtain ⟨r, hr⟩ : ∃ r, rollV L k2 8 = r := ⟨_, rfl⟩
    have hrr := rollV_range L k2 8 (by omega)
    rw [hr] at cN hrr
    generalize rollK L k2 = k3 at cN
    obtain ⟨q, rfl⟩ : ∃ q : Nat, r = (q : Int) := ⟨r.toNat, by omega⟩
    obtain ⟨n, hn⟩ : ∃ n, q + 1 = n := ⟨_, rfl⟩
    have hn1 : 1 ≤ n := by omega
    have hn2 : n ≤ 8 := by omega
    have hni : 1 + (q : Int) = (n : Int) := by omega
    have HE2 := hid he2
    have CN := hid cN
    have HMG := hid hmg
    have g1 : 1 ≤ d ∧ d ≤ 5 := hmg.1
    have g2 : 2 ≤ s ∧ s ≤ 8 := hmg.2.1
    clear cN he2 hr hrr hn cG hmg
    go_wp2_with fail
    refine CN.out.mono ?_
    rintro e w3 ⟨rfl, hd3, hR3⟩
    have he3 := HE2.out.next hd3 hR3
    have hs3 := he3.p.size
    have hrs : RS w1 w.heap.size c A L w3.heap.size d s b m none none (w3.alloc (.cells #[.int .i64 d, .int .i64 s, .int .i64 b, .int .i64 m] 23)) :=
      ⟨⟨_, he3.alloc _⟩, Cells4.new w3 d s b m _, (fun _ _ _ _ _ h => (by cases h)), (fun _ _ _ _ _ h => (by cases h)), (fun _ _ _ _ h => (by cases h)), (fun _ _ h => (by cases h)), (fun _ _ h => (by cases h)), hgl, hs3⟩
    have cT : Hid (∀ oa ob W, RS w1 w.heap.size c A L w3.heap.size d s b m oa ob W → Calls Tryd.prog 24 #[.pointer (some ⟨w.heap.size, 0, none⟩), .agg #[.int .i64 d, .int .i64 s, .int .i64 b, .int .i64 m], .int .i64 (n : Int)] W fun e w' => (∃ k y u l : Int, e = .returned (.agg #[.int .i64 k, .int .i64 y, .int .i64 u, .int .i64 l]) ∧ MadeT d s n k y u l) ∧ RS w1 w.heap.size c A L w3.heap.size d s b m oa ob w') :=
      hid (fun oa ob W hk => by
        obtain ⟨k0, h0⟩ := hk.e
        refine (time_any w.heap.size c _ A L d s b m n hn1 (by omega) (by omega) (by omega) (by omega) (by omega) W h0.d).mono ?_
        rintro e w' ⟨k, y, u, l, k', h1, h2, h3⟩
        exact ⟨⟨k, y, u, l, h1, h2⟩, hk.de h3⟩)
    have HRS := hid hrs
    have HW := hid (fun k h => HB.out w3 k h)
    clear he3 hrs hd3 hR3 CN HE2 hs3
    go_wp2_with fail
    have hk := HRS.out
    clear HRS
    generalize w3.heap.size = tg at hk cT ⊢
    go_cut [6, 7] (fun v6 v7 wq => ∃ (ta tb : Nat) (ka ya ua la kb yb ub lb : Int), v6 = .pointer (some ⟨ta, 0, none⟩) ∧ v7 = .pointer (some ⟨tb, 0, none⟩) ∧ MadeT d s n ka ya ua la ∧ MadeT d s n kb yb ub lb ∧ RS w1 w.heap.size c A L tg d s b m (some (ta, ka, ya, ua, la)) (some (tb, kb, yb, ub, lb)) wq)
    case first =>
      refine wp_region_held_drew (S := fun W => Box4 W tg d s b m) (by kernel_rfl) hk.drew.x.box (fun hHeld => ?_)
      have hk2 := hk.drew
      clear hk
      have hk := hk2
      clear hk2
      generalize World.drew _ = wx at hk hHeld ⊢
      (refine wpAnyH_take (i := 0) (oi := _) (v := ?_) rfl (by kernel_rfl) (by kernel_rfl) (by kernel_rfl) (fun _ _ _ h => h) (Or.inl ⟨by rfl, ?_⟩) (by assumption) ?_; rotate_left; (intro wS hSw; obtain ⟨x0, x1, x2, x3, _⟩ := hSw; (try simp only [List.getElem_toArray, List.getElem_cons_zero]); go_simp; (try with_reducible rfl)))
      try simp only [List.getElem_toArray, List.getElem_cons_zero, Act.put, List.setIfInBounds_toArray, List.set_cons_zero, List.set_cons_succ]
      (refine wpAnyH_take (i := 1) (oi := _) (v := ?_) rfl (by kernel_rfl) (by kernel_rfl) (by kernel_rfl) (fun _ _ _ h => h) (Or.inl ⟨by rfl, ?_⟩) (by assumption) ?_; rotate_left; (intro wS hSw; obtain ⟨x0, x1, x2, x3, _⟩ := hSw; (try simp only [List.getElem_toArray, List.getElem_cons_succ, List.getElem_cons_zero]); go_simp; (try with_reducible rfl)))
      try simp only [List.getElem_toArray, List.getElem_cons_succ, List.getElem_cons_zero, Act.put, List.setIfInBounds_toArray, List.set_cons_zero, List.set_cons_succ]
      (refine wpAnyH_take (i := 2) (oi := _) (v := ?_) rfl (by kernel_rfl) (by kernel_rfl) (by kernel_rfl) (fun _ _ _ h => h) (Or.inl ⟨by rfl, ?_⟩) (by assumption) ?_; rotate_left; (intro wS hSw; obtain ⟨x0, x1, x2, x3, _⟩ := hSw; (try simp only [List.getElem_toArray, List.getElem_cons_succ, List.getElem_cons_zero]); go_simp; (try with_reducible rfl)))
      try simp only [List.getElem_toArray, List.getElem_cons_succ, List.getElem_cons_zero, Act.put, List.setIfInBounds_toArray, List.set_cons_zero, List.set_cons_succ]
      (refine wpAnyH_take (i := 4) (oi := _) (v := ?_) rfl (by kernel_rfl) (by kernel_rfl) (by kernel_rfl) (fun _ _ _ h => h) (Or.inl ⟨by rfl, ?_⟩) (by assumption) ?_; rotate_left; (intro wS hSw; obtain ⟨x0, x1, x2, x3, _⟩ := hSw; (try simp only [List.getElem_toArray, List.getElem_cons_succ, List.getElem_cons_zero]); go_simp; (try with_reducible rfl)))
      try simp only [List.getElem_toArray, List.getElem_cons_succ, List.getElem_cons_zero, Act.put, List.setIfInBounds_toArray, List.set_cons_zero, List.set_cons_succ]
      (refine wpAnyH_take (i := 5) (oi := _) (v := ?_) rfl (by kernel_rfl) (by kernel_rfl) (by kernel_rfl) (fun _ _ _ h => h) (Or.inl ⟨by rfl, ?_⟩) (by assumption) ?_; rotate_left; (intro wS hSw; obtain ⟨x0, x1, x2, x3, _⟩ := hSw; (try simp only [List.getElem_toArray, List.getElem_cons_succ, List.getElem_cons_zero]); go_simp; (try with_reducible rfl)))
      try simp only [List.getElem_toArray, List.getElem_cons_succ, List.getElem_cons_zero, Act.put, List.setIfInBounds_toArray, List.set_cons_zero, List.set_cons_succ]
      (refine wpAnyH_take (i := 6) (oi := _) (v := ?_) rfl (by kernel_rfl) (by kernel_rfl) (by kernel_rfl) (fun _ _ _ h => h) (Or.inl ⟨by rfl, ?_⟩) (by assumption) ?_; rotate_left; (intro wS hSw; obtain ⟨x0, x1, x2, x3, _⟩ := hSw; (try simp only [List.getElem_toArray, List.getElem_cons_succ, List.getElem_cons_zero]); go_simp; (try with_reducible rfl)))
      try simp only [List.getElem_toArray, List.getElem_cons_succ, List.getElem_cons_zero, Act.put, List.setIfInBounds_toArray, List.set_cons_zero, List.set_cons_succ]
      refine wpAnyH_ready (rs := [3, 8, 9]) (by kernel_rfl) (by simp) ?_
      refine AllReadyH.cons (o := _) rfl (fun K hK => ?_) (AllReadyH.cons (o := _) rfl (fun K hK => ?_) (AllReadyH.cons (o := _) rfl (fun K hK => ?_) AllReadyH.nil))
      · (try simp only [List.getElem_toArray, List.getElem_cons_succ, List.getElem_cons_zero])
        go_simp
        go_at_call 24
        refine (cT.out _ _ _ hk).mono ?_
        rintro e wy ⟨⟨k1, y1, u1, l1, rfl, ht1⟩, hk2⟩
        go_wp2_with fail
        refine hK.out _ _ hk2.x.box (fun hHeld => ?_)
        clear hK K hk
        have hk := hk2
        clear hk2
        try simp only [List.getElem_toArray, List.getElem_cons_succ, List.getElem_cons_zero, Act.put, List.setIfInBounds_toArray, List.set_cons_zero, List.set_cons_succ]
        clear hHeld
        have hHeld := hk.x.box
        generalize hwy : wy = wx at hk hHeld ⊢
        clear hwy
        refine wpAnyH_ready (rs := [7, 8, 9]) (by kernel_rfl) (by simp) ?_
        refine AllReadyH.cons (o := _) rfl (fun K hK => ?_) (AllReadyH.cons (o := _) rfl (fun K hK => ?_) (AllReadyH.cons (o := _) rfl (fun K hK => ?_) AllReadyH.nil))
        · (try simp only [List.getElem_toArray, List.getElem_cons_succ, List.getElem_cons_zero])
          go_simp
          go_at_call 24
          refine (cT.out _ _ _ hk).mono ?_
          rintro e wy ⟨⟨k2, y2, u2, l2, rfl, ht2⟩, hk2⟩
          go_wp2_with fail
          refine hK.out _ _ hk2.x.box (fun hHeld => ?_)
          clear hK K hk
          have hk := hk2
          clear hk2
          try simp only [List.getElem_toArray, List.getElem_cons_succ, List.getElem_cons_zero, Act.put, List.setIfInBounds_toArray, List.set_cons_zero, List.set_cons_succ]
          clear hHeld
          have hHeld := hk.x.box
          generalize hwy : wy = wx at hk hHeld ⊢
          clear hwy
          refine wpAnyH_ready (rs := [8, 9]) (by kernel_rfl) (by simp) ?_
          refine AllReadyH.cons (o := _) rfl (fun K hK => ?_) (AllReadyH.cons (o := _) rfl (fun K hK => ?_) AllReadyH.nil)
          · (try simp only [List.getElem_toArray, List.getElem_cons_succ, List.getElem_cons_zero])
            go_simp
            have hk2 := hk.allocA 0 0 0 0
            generalize wx.heap.size = ta at hk2 ⊢
            refine hK.out _ _ hk2.x.box (fun hHeld => ?_)
            clear hK K hk
            have hk := hk2
            clear hk2
            try simp only [List.getElem_toArray, List.getElem_cons_succ, List.getElem_cons_zero, Act.put, List.setIfInBounds_toArray, List.set_cons_zero, List.set_cons_succ]
            generalize wx.alloc (.cells #[.int .i64 0, .int .i64 0, .int .i64 0, .int .i64 0] 25) = wx at hk hHeld ⊢
            refine wpAnyH_ready (rs := [9]) (by kernel_rfl) (by simp) ?_
            refine AllReadyH.cons (o := _) rfl (fun K hK => ?_) AllReadyH.nil
            (try simp only [List.getElem_toArray, List.getElem_cons_succ, List.getElem_cons_zero])
            go_simp
            have hk2 := hk.allocB 0 0 0 0
            generalize wx.heap.size = tb at hk2 ⊢
            refine hK.out _ _ hk2.x.box (fun hHeld => ?_)
            clear hK K hk
            have hk := hk2
            clear hk2
            try simp only [List.getElem_toArray, List.getElem_cons_succ, List.getElem_cons_zero, Act.put, List.setIfInBounds_toArray, List.set_cons_zero, List.set_cons_succ]
            generalize wx.alloc (.cells #[.int .i64 0, .int .i64 0, .int .i64 0, .int .i64 0] 25) = wx at hk hHeld ⊢
            refine wpAnyH_ready (rs := [10]) (by kernel_rfl) (by simp) ?_
            refine AllReadyH.cons (o := _) rfl (fun K hK => ?_) AllReadyH.nil
            (try simp only [List.getElem_toArray, List.getElem_cons_succ, List.getElem_cons_zero])
            have hx := (hk.a _ _ _ _ _ rfl).1
            obtain ⟨z0, z1, z2, z3, _⟩ := hx.box
            have f0 := hx.free 0
            have f1 := hx.free 1
            have f2 := hx.free 2
            have f3 := hx.free 3
            clear hx
            go_simp
            have hk2 := hk.setA k1 y1 u1 l1
            unfold put4 at hk2
            refine hK.out _ _ hk2.x.box (fun hHeld => ?_)
            clear hK K hk
            have hk := hk2
            clear hk2
            try simp only [List.getElem_toArray, List.getElem_cons_succ, List.getElem_cons_zero, Act.put, List.setIfInBounds_toArray, List.set_cons_zero, List.set_cons_succ]
            generalize ((((wx.setCell ⟨ta, 0, none⟩ (.int .i64 k1)).setCell ⟨ta, 1, none⟩ (.int .i64 y1)).setCell ⟨ta, 2, none⟩ (.int .i64 u1)).setCell ⟨ta, 3, none⟩ (.int .i64 l1)) = wx at hk hHeld ⊢
            refine wpAnyH_ready (rs := [11]) (by kernel_rfl) (by simp) ?_
            refine AllReadyH.cons (o := _) rfl (fun K hK => ?_) AllReadyH.nil
            (try simp only [List.getElem_toArray, List.getElem_cons_succ, List.getElem_cons_zero])
            have hx := (hk.b _ _ _ _ _ rfl).1
            obtain ⟨z0, z1, z2, z3, _⟩ := hx.box
            have f0 := hx.free 0
            have f1 := hx.free 1
            have f2 := hx.free 2
            have f3 := hx.free 3
            clear hx
            go_simp
            have hk2 := hk.setB k2 y2 u2 l2
            unfold put4 at hk2
            refine hK.out _ _ hk2.x.box (fun hHeld => ?_)
            clear hK K hk
            have hk := hk2
            clear hk2
            try simp only [List.getElem_toArray, List.getElem_cons_succ, List.getElem_cons_zero, Act.put, List.setIfInBounds_toArray, List.set_cons_zero, List.set_cons_succ]
            generalize ((((wx.setCell ⟨tb, 0, none⟩ (.int .i64 k2)).setCell ⟨tb, 1, none⟩ (.int .i64 y2)).setCell ⟨tb, 2, none⟩ (.int .i64 u2)).setCell ⟨tb, 3, none⟩ (.int .i64 l2)) = wx at hk hHeld ⊢
            refine wpAnyH_done (by kernel_rfl) ?_ _
            go_wp2_with fail
            go_meet
            exact ⟨_, _, _, _, _, _, _, _, _, _, rfl, rfl, ht1, ht2, hk⟩
          · (try simp only [List.getElem_toArray, List.getElem_cons_succ, List.getElem_cons_zero])
            go_simp
            have hk2 := hk.allocB 0 0 0 0
            generalize wx.heap.size = tb at hk2 ⊢
            refine hK.out _ _ hk2.x.box (fun hHeld => ?_)
            clear hK K hk
            have hk := hk2
            clear hk2
            try simp only [List.getElem_toArray, List.getElem_cons_succ, List.getElem_cons_zero, Act.put, List.setIfInBounds_toArray, List.set_cons_zero, List.set_cons_succ]
            generalize wx.alloc (.cells #[.int .i64 0, .int .i64 0, .int .i64 0, .int .i64 0] 25) = wx at hk hHeld ⊢
            refine wpAnyH_ready (rs := [8]) (by kernel_rfl) (by simp) ?_
            refine AllReadyH.cons (o := _) rfl (fun K hK => ?_) AllReadyH.nil
            (try simp only [List.getElem_toArray, List.getElem_cons_succ, List.getElem_cons_zero])
            go_simp
            have hk2 := hk.allocA 0 0 0 0
            generalize wx.heap.size = ta at hk2 ⊢
            refine hK.out _ _ hk2.x.box (fun hHeld => ?_)
            clear hK K hk
            have hk := hk2
            clear hk2
            try simp only [List.getElem_toArray, List.getElem_cons_succ, List.getElem_cons_zero, Act.put, List.setIfInBounds_toArray, List.set_cons_zero, List.set_cons_succ]
            generalize wx.alloc (.cells #[.int .i64 0, .int .i64 0, .int .i64 0, .int .i64 0] 25) = wx at hk hHeld ⊢
            refine wpAnyH_ready (rs := [10]) (by kernel_rfl) (by simp) ?_
            refine AllReadyH.cons (o := _) rfl (fun K hK => ?_) AllReadyH.nil
            (try simp only [List.getElem_toArray, List.getElem_cons_succ, List.getElem_cons_zero])
            have hx := (hk.a _ _ _ _ _ rfl).1
            obtain ⟨z0, z1, z2, z3, _⟩ := hx.box
            have f0 := hx.free 0
            have f1 := hx.free 1
            have f2 := hx.free 2
            have f3 := hx.free 3
            clear hx
            go_simp
            have hk2 := hk.setA k1 y1 u1 l1
            unfold put4 at hk2
            refine hK.out _ _ hk2.x.box (fun hHeld => ?_)
            clear hK K hk
            have hk := hk2
            clear hk2
            try simp only [List.getElem_toArray, List.getElem_cons_succ, List.getElem_cons_zero, Act.put, List.setIfInBounds_toArray, List.set_cons_zero, List.set_cons_succ]
            generalize ((((wx.setCell ⟨ta, 0, none⟩ (.int .i64 k1)).setCell ⟨ta, 1, none⟩ (.int .i64 y1)).setCell ⟨ta, 2, none⟩ (.int .i64 u1)).setCell ⟨ta, 3, none⟩ (.int .i64 l1)) = wx at hk hHeld ⊢
            refine wpAnyH_ready (rs := [11]) (by kernel_rfl) (by simp) ?_
            refine AllReadyH.cons (o := _) rfl (fun K hK => ?_) AllReadyH.nil
            (try simp only [List.getElem_toArray, List.getElem_cons_succ, List.getElem_cons_zero])
            have hx := (hk.b _ _ _ _ _ rfl).1
            obtain ⟨z0, z1, z2, z3, _⟩ := hx.box
            have f0 := hx.free 0
            have f1 := hx.free 1
            have f2 := hx.free 2
            have f3 := hx.free 3
            clear hx
            go_simp
            have hk2 := hk.setB k2 y2 u2 l2
            unfold put4 at hk2
            refine hK.out _ _ hk2.x.box (fun hHeld => ?_)
            clear hK K hk
            have hk := hk2
            clear hk2
            try simp only [List.getElem_toArray, List.getElem_cons_succ, List.getElem_cons_zero, Act.put, List.setIfInBounds_toArray, List.set_cons_zero, List.set_cons_succ]
            generalize ((((wx.setCell ⟨tb, 0, none⟩ (.int .i64 k2)).setCell ⟨tb, 1, none⟩ (.int .i64 y2)).setCell ⟨tb, 2, none⟩ (.int .i64 u2)).setCell ⟨tb, 3, none⟩ (.int .i64 l2)) = wx at hk hHeld ⊢
            refine wpAnyH_done (by kernel_rfl) ?_ _
            go_wp2_with fail
            go_meet
            exact ⟨_, _, _, _, _, _, _, _, _, _, rfl, rfl, ht1, ht2, hk⟩
        · (try simp only [List.getElem_toArray, List.getElem_cons_succ, List.getElem_cons_zero])
          go_simp
          have hk2 := hk.allocA 0 0 0 0
          generalize wx.heap.size = ta at hk2 ⊢
          refine hK.out _ _ hk2.x.box (fun hHeld => ?_)
          clear hK K hk
          have hk := hk2
          clear hk2
          try simp only [List.getElem_toArray, List.getElem_cons_succ, List.getElem_cons_zero, Act.put, List.setIfInBounds_toArray, List.set_cons_zero, List.set_cons_succ]
          generalize wx.alloc (.cells #[.int .i64 0, .int .i64 0, .int .i64 0, .int .i64 0] 25) = wx at hk hHeld ⊢
          refine wpAnyH_ready (rs := [7, 9]) (by kernel_rfl) (by simp) ?_
          refine AllReadyH.cons (o := _) rfl (fun K hK => ?_) (AllReadyH.cons (o := _) rfl (fun K hK => ?_) AllReadyH.nil)
          · (try simp only [List.getElem_toArray, List.getElem_cons_succ, List.getElem_cons_zero])
            go_simp
            go_at_call 24
            refine (cT.out _ _ _ hk).mono ?_
            rintro e wy ⟨⟨k2, y2, u2, l2, rfl, ht2⟩, hk2⟩
            go_wp2_with fail
            refine hK.out _ _ hk2.x.box (fun hHeld => ?_)
            clear hK K hk
            have hk := hk2
            clear hk2
            try simp only [List.getElem_toArray, List.getElem_cons_succ, List.getElem_cons_zero, Act.put, List.setIfInBounds_toArray, List.set_cons_zero, List.set_cons_succ]
            clear hHeld
            have hHeld := hk.x.box
            generalize hwy : wy = wx at hk hHeld ⊢
            clear hwy
            refine wpAnyH_ready (rs := [9]) (by kernel_rfl) (by simp) ?_
            refine AllReadyH.cons (o := _) rfl (fun K hK => ?_) AllReadyH.nil
            (try simp only [List.getElem_toArray, List.getElem_cons_succ, List.getElem_cons_zero])
            go_simp
            have hk2 := hk.allocB 0 0 0 0
            generalize wx.heap.size = tb at hk2 ⊢
            refine hK.out _ _ hk2.x.box (fun hHeld => ?_)
            clear hK K hk
            have hk := hk2
            clear hk2
            try simp only [List.getElem_toArray, List.getElem_cons_succ, List.getElem_cons_zero, Act.put, List.setIfInBounds_toArray, List.set_cons_zero, List.set_cons_succ]
            generalize wx.alloc (.cells #[.int .i64 0, .int .i64 0, .int .i64 0, .int .i64 0] 25) = wx at hk hHeld ⊢
            refine wpAnyH_ready (rs := [10]) (by kernel_rfl) (by simp) ?_
            refine AllReadyH.cons (o := _) rfl (fun K hK => ?_) AllReadyH.nil
            (try simp only [List.getElem_toArray, List.getElem_cons_succ, List.getElem_cons_zero])
            have hx := (hk.a _ _ _ _ _ rfl).1
            obtain ⟨z0, z1, z2, z3, _⟩ := hx.box
            have f0 := hx.free 0
            have f1 := hx.free 1
            have f2 := hx.free 2
            have f3 := hx.free 3
            clear hx
            go_simp
            have hk2 := hk.setA k1 y1 u1 l1
            unfold put4 at hk2
            refine hK.out _ _ hk2.x.box (fun hHeld => ?_)
            clear hK K hk
            have hk := hk2
            clear hk2
            try simp only [List.getElem_toArray, List.getElem_cons_succ, List.getElem_cons_zero, Act.put, List.setIfInBounds_toArray, List.set_cons_zero, List.set_cons_succ]
            generalize ((((wx.setCell ⟨ta, 0, none⟩ (.int .i64 k1)).setCell ⟨ta, 1, none⟩ (.int .i64 y1)).setCell ⟨ta, 2, none⟩ (.int .i64 u1)).setCell ⟨ta, 3, none⟩ (.int .i64 l1)) = wx at hk hHeld ⊢
            refine wpAnyH_ready (rs := [11]) (by kernel_rfl) (by simp) ?_
            refine AllReadyH.cons (o := _) rfl (fun K hK => ?_) AllReadyH.nil
            (try simp only [List.getElem_toArray, List.getElem_cons_succ, List.getElem_cons_zero])
            have hx := (hk.b _ _ _ _ _ rfl).1
            obtain ⟨z0, z1, z2, z3, _⟩ := hx.box
            have f0 := hx.free 0
            have f1 := hx.free 1
            have f2 := hx.free 2
            have f3 := hx.free 3
            clear hx
            go_simp
            have hk2 := hk.setB k2 y2 u2 l2
            unfold put4 at hk2
            refine hK.out _ _ hk2.x.box (fun hHeld => ?_)
            clear hK K hk
            have hk := hk2
            clear hk2
            try simp only [List.getElem_toArray, List.getElem_cons_succ, List.getElem_cons_zero, Act.put, List.setIfInBounds_toArray, List.set_cons_zero, List.set_cons_succ]
            generalize ((((wx.setCell ⟨tb, 0, none⟩ (.int .i64 k2)).setCell ⟨tb, 1, none⟩ (.int .i64 y2)).setCell ⟨tb, 2, none⟩ (.int .i64 u2)).setCell ⟨tb, 3, none⟩ (.int .i64 l2)) = wx at hk hHeld ⊢
            refine wpAnyH_done (by kernel_rfl) ?_ _
            go_wp2_with fail
            go_meet
            exact ⟨_, _, _, _, _, _, _, _, _, _, rfl, rfl, ht1, ht2, hk⟩
          · (try simp only [List.getElem_toArray, List.getElem_cons_succ, List.getElem_cons_zero])
            go_simp
            have hk2 := hk.allocB 0 0 0 0
            generalize wx.heap.size = tb at hk2 ⊢
            refine hK.out _ _ hk2.x.box (fun hHeld => ?_)
            clear hK K hk
            have hk := hk2
            clear hk2
            try simp only [List.getElem_toArray, List.getElem_cons_succ, List.getElem_cons_zero, Act.put, List.setIfInBounds_toArray, List.set_cons_zero, List.set_cons_succ]
            generalize wx.alloc (.cells #[.int .i64 0, .int .i64 0, .int .i64 0, .int .i64 0] 25) = wx at hk hHeld ⊢
            refine wpAnyH_ready (rs := [7]) (by kernel_rfl) (by simp) ?_
            refine AllReadyH.cons (o := _) rfl (fun K hK => ?_) AllReadyH.nil
            (try simp only [List.getElem_toArray, List.getElem_cons_succ, List.getElem_cons_zero])
            go_simp
            go_at_call 24
            refine (cT.out _ _ _ hk).mono ?_
            rintro e wy ⟨⟨k2, y2, u2, l2, rfl, ht2⟩, hk2⟩
            go_wp2_with fail
            refine hK.out _ _ hk2.x.box (fun hHeld => ?_)
            clear hK K hk
            have hk := hk2
            clear hk2
            try simp only [List.getElem_toArray, List.getElem_cons_succ, List.getElem_cons_zero, Act.put, List.setIfInBounds_toArray, List.set_cons_zero, List.set_cons_succ]
            clear hHeld
            have hHeld := hk.x.box
            generalize hwy : wy = wx at hk hHeld ⊢
            clear hwy
            refine wpAnyH_ready (rs := [10]) (by kernel_rfl) (by simp) ?_
            refine AllReadyH.cons (o := _) rfl (fun K hK => ?_) AllReadyH.nil
            (try simp only [List.getElem_toArray, List.getElem_cons_succ, List.getElem_cons_zero])
            have hx := (hk.a _ _ _ _ _ rfl).1
            obtain ⟨z0, z1, z2, z3, _⟩ := hx.box
            have f0 := hx.free 0
            have f1 := hx.free 1
            have f2 := hx.free 2
            have f3 := hx.free 3
            clear hx
            go_simp
            have hk2 := hk.setA k1 y1 u1 l1
            unfold put4 at hk2
            refine hK.out _ _ hk2.x.box (fun hHeld => ?_)
            clear hK K hk
            have hk := hk2
            clear hk2
            try simp only [List.getElem_toArray, List.getElem_cons_succ, List.getElem_cons_zero, Act.put, List.setIfInBounds_toArray, List.set_cons_zero, List.set_cons_succ]
            generalize ((((wx.setCell ⟨ta, 0, none⟩ (.int .i64 k1)).setCell ⟨ta, 1, none⟩ (.int .i64 y1)).setCell ⟨ta, 2, none⟩ (.int .i64 u1)).setCell ⟨ta, 3, none⟩ (.int .i64 l1)) = wx at hk hHeld ⊢
            refine wpAnyH_ready (rs := [11]) (by kernel_rfl) (by simp) ?_
            refine AllReadyH.cons (o := _) rfl (fun K hK => ?_) AllReadyH.nil
            (try simp only [List.getElem_toArray, List.getElem_cons_succ, List.getElem_cons_zero])
            have hx := (hk.b _ _ _ _ _ rfl).1
            obtain ⟨z0, z1, z2, z3, _⟩ := hx.box
            have f0 := hx.free 0
            have f1 := hx.free 1
            have f2 := hx.free 2
            have f3 := hx.free 3
            clear hx
            go_simp
            have hk2 := hk.setB k2 y2 u2 l2
            unfold put4 at hk2
            refine hK.out _ _ hk2.x.box (fun hHeld => ?_)
            clear hK K hk
            have hk := hk2
            clear hk2
            try simp only [List.getElem_toArray, List.getElem_cons_succ, List.getElem_cons_zero, Act.put, List.setIfInBounds_toArray, List.set_cons_zero, List.set_cons_succ]
            generalize ((((wx.setCell ⟨tb, 0, none⟩ (.int .i64 k2)).setCell ⟨tb, 1, none⟩ (.int .i64 y2)).setCell ⟨tb, 2, none⟩ (.int .i64 u2)).setCell ⟨tb, 3, none⟩ (.int .i64 l2)) = wx at hk hHeld ⊢
            refine wpAnyH_done (by kernel_rfl) ?_ _
            go_wp2_with fail
            go_meet
            exact ⟨_, _, _, _, _, _, _, _, _, _, rfl, rfl, ht1, ht2, hk⟩
        · (try simp only [List.getElem_toArray, List.getElem_cons_succ, List.getElem_cons_zero])
          go_simp
          have hk2 := hk.allocB 0 0 0 0
          generalize wx.heap.size = tb at hk2 ⊢
          refine hK.out _ _ hk2.x.box (fun hHeld => ?_)
          clear hK K hk
          have hk := hk2
          clear hk2
          try simp only [List.getElem_toArray, List.getElem_cons_succ, List.getElem_cons_zero, Act.put, List.setIfInBounds_toArray, List.set_cons_zero, List.set_cons_succ]
          generalize wx.alloc (.cells #[.int .i64 0, .int .i64 0, .int .i64 0, .int .i64 0] 25) = wx at hk hHeld ⊢
          refine wpAnyH_ready (rs := [7, 8]) (by kernel_rfl) (by simp) ?_
          refine AllReadyH.cons (o := _) rfl (fun K hK => ?_) (AllReadyH.cons (o := _) rfl (fun K hK => ?_) AllReadyH.nil)
          · (try simp only [List.getElem_toArray, List.getElem_cons_succ, List.getElem_cons_zero])
            go_simp
            go_at_call 24
            refine (cT.out _ _ _ hk).mono ?_
            rintro e wy ⟨⟨k2, y2, u2, l2, rfl, ht2⟩, hk2⟩
            go_wp2_with fail
            refine hK.out _ _ hk2.x.box (fun hHeld => ?_)
            clear hK K hk
            have hk := hk2
            clear hk2
            try simp only [List.getElem_toArray, List.getElem_cons_succ, List.getElem_cons_zero, Act.put, List.setIfInBounds_toArray, List.set_cons_zero, List.set_cons_succ]
            clear hHeld
            have hHeld := hk.x.box
            generalize hwy : wy = wx at hk hHeld ⊢
            clear hwy
            refine wpAnyH_ready (rs := [8]) (by kernel_rfl) (by simp) ?_
            refine AllReadyH.cons (o := _) rfl (fun K hK => ?_) AllReadyH.nil
            (try simp only [List.getElem_toArray, List.getElem_cons_succ, List.getElem_cons_zero])
            go_simp
            have hk2 := hk.allocA 0 0 0 0
            generalize wx.heap.size = ta at hk2 ⊢
            refine hK.out _ _ hk2.x.box (fun hHeld => ?_)
            clear hK K hk
            have hk := hk2
            clear hk2
            try simp only [List.getElem_toArray, List.getElem_cons_succ, List.getElem_cons_zero, Act.put, List.setIfInBounds_toArray, List.set_cons_zero, List.set_cons_succ]
            generalize wx.alloc (.cells #[.int .i64 0, .int .i64 0, .int .i64 0, .int .i64 0] 25) = wx at hk hHeld ⊢
            refine wpAnyH_ready (rs := [10]) (by kernel_rfl) (by simp) ?_
            refine AllReadyH.cons (o := _) rfl (fun K hK => ?_) AllReadyH.nil
            (try simp only [List.getElem_toArray, List.getElem_cons_succ, List.getElem_cons_zero])
            have hx := (hk.a _ _ _ _ _ rfl).1
            obtain ⟨z0, z1, z2, z3, _⟩ := hx.box
            have f0 := hx.free 0
            have f1 := hx.free 1
            have f2 := hx.free 2
            have f3 := hx.free 3
            clear hx
            go_simp
            have hk2 := hk.setA k1 y1 u1 l1
            unfold put4 at hk2
            refine hK.out _ _ hk2.x.box (fun hHeld => ?_)
            clear hK K hk
            have hk := hk2
            clear hk2
            try simp only [List.getElem_toArray, List.getElem_cons_succ, List.getElem_cons_zero, Act.put, List.setIfInBounds_toArray, List.set_cons_zero, List.set_cons_succ]
            generalize ((((wx.setCell ⟨ta, 0, none⟩ (.int .i64 k1)).setCell ⟨ta, 1, none⟩ (.int .i64 y1)).setCell ⟨ta, 2, none⟩ (.int .i64 u1)).setCell ⟨ta, 3, none⟩ (.int .i64 l1)) = wx at hk hHeld ⊢
            refine wpAnyH_ready (rs := [11]) (by kernel_rfl) (by simp) ?_
            refine AllReadyH.cons (o := _) rfl (fun K hK => ?_) AllReadyH.nil
            (try simp only [List.getElem_toArray, List.getElem_cons_succ, List.getElem_cons_zero])
            have hx := (hk.b _ _ _ _ _ rfl).1
            obtain ⟨z0, z1, z2, z3, _⟩ := hx.box
            have f0 := hx.free 0
            have f1 := hx.free 1
            have f2 := hx.free 2
            have f3 := hx.free 3
            clear hx
            go_simp
            have hk2 := hk.setB k2 y2 u2 l2
            unfold put4 at hk2
            refine hK.out _ _ hk2.x.box (fun hHeld => ?_)
            clear hK K hk
            have hk := hk2
            clear hk2
            try simp only [List.getElem_toArray, List.getElem_cons_succ, List.getElem_cons_zero, Act.put, List.setIfInBounds_toArray, List.set_cons_zero, List.set_cons_succ]
            generalize ((((wx.setCell ⟨tb, 0, none⟩ (.int .i64 k2)).setCell ⟨tb, 1, none⟩ (.int .i64 y2)).setCell ⟨tb, 2, none⟩ (.int .i64 u2)).setCell ⟨tb, 3, none⟩ (.int .i64 l2)) = wx at hk hHeld ⊢
            refine wpAnyH_done (by kernel_rfl) ?_ _
            go_wp2_with fail
            go_meet
            exact ⟨_, _, _, _, _, _, _, _, _, _, rfl, rfl, ht1, ht2, hk⟩
          · (try simp only [List.getElem_toArray, List.getElem_cons_succ, List.getElem_cons_zero])
            go_simp
            have hk2 := hk.allocA 0 0 0 0
            generalize wx.heap.size = ta at hk2 ⊢
            refine hK.out _ _ hk2.x.box (fun hHeld => ?_)
            clear hK K hk
            have hk := hk2
            clear hk2
            try simp only [List.getElem_toArray, List.getElem_cons_succ, List.getElem_cons_zero, Act.put, List.setIfInBounds_toArray, List.set_cons_zero, List.set_cons_succ]
            generalize wx.alloc (.cells #[.int .i64 0, .int .i64 0, .int .i64 0, .int .i64 0] 25) = wx at hk hHeld ⊢
            refine wpAnyH_ready (rs := [7]) (by kernel_rfl) (by simp) ?_
            refine AllReadyH.cons (o := _) rfl (fun K hK => ?_) AllReadyH.nil
            (try simp only [List.getElem_toArray, List.getElem_cons_succ, List.getElem_cons_zero])
            go_simp
            go_at_call 24
            refine (cT.out _ _ _ hk).mono ?_
            rintro e wy ⟨⟨k2, y2, u2, l2, rfl, ht2⟩, hk2⟩
            go_wp2_with fail
            refine hK.out _ _ hk2.x.box (fun hHeld => ?_)
            clear hK K hk
            have hk := hk2
            clear hk2
            try simp only [List.getElem_toArray, List.getElem_cons_succ, List.getElem_cons_zero, Act.put, List.setIfInBounds_toArray, List.set_cons_zero, List.set_cons_succ]
            clear hHeld
            have hHeld := hk.x.box
            generalize hwy : wy = wx at hk hHeld ⊢
            clear hwy
            refine wpAnyH_ready (rs := [10]) (by kernel_rfl) (by simp) ?_
            refine AllReadyH.cons (o := _) rfl (fun K hK => ?_) AllReadyH.nil
            (try simp only [List.getElem_toArray, List.getElem_cons_succ, List.getElem_cons_zero])
            have hx := (hk.a _ _ _ _ _ rfl).1
            obtain ⟨z0, z1, z2, z3, _⟩ := hx.box
            have f0 := hx.free 0
            have f1 := hx.free 1
            have f2 := hx.free 2
            have f3 := hx.free 3
            clear hx
            go_simp
            have hk2 := hk.setA k1 y1 u1 l1
            unfold put4 at hk2
            refine hK.out _ _ hk2.x.box (fun hHeld => ?_)
            clear hK K hk
            have hk := hk2
            clear hk2
            try simp only [List.getElem_toArray, List.getElem_cons_succ, List.getElem_cons_zero, Act.put, List.setIfInBounds_toArray, List.set_cons_zero, List.set_cons_succ]
            generalize ((((wx.setCell ⟨ta, 0, none⟩ (.int .i64 k1)).setCell ⟨ta, 1, none⟩ (.int .i64 y1)).setCell ⟨ta, 2, none⟩ (.int .i64 u1)).setCell ⟨ta, 3, none⟩ (.int .i64 l1)) = wx at hk hHeld ⊢
            refine wpAnyH_ready (rs := [11]) (by kernel_rfl) (by simp) ?_
            refine AllReadyH.cons (o := _) rfl (fun K hK => ?_) AllReadyH.nil
            (try simp only [List.getElem_toArray, List.getElem_cons_succ, List.getElem_cons_zero])
            have hx := (hk.b _ _ _ _ _ rfl).1
            obtain ⟨z0, z1, z2, z3, _⟩ := hx.box
            have f0 := hx.free 0
            have f1 := hx.free 1
            have f2 := hx.free 2
            have f3 := hx.free 3
            clear hx
            go_simp
            have hk2 := hk.setB k2 y2 u2 l2
            unfold put4 at hk2
            refine hK.out _ _ hk2.x.box (fun hHeld => ?_)
            clear hK K hk
            have hk := hk2
            clear hk2
            try simp only [List.getElem_toArray, List.getElem_cons_succ, List.getElem_cons_zero, Act.put, List.setIfInBounds_toArray, List.set_cons_zero, List.set_cons_succ]
            generalize ((((wx.setCell ⟨tb, 0, none⟩ (.int .i64 k2)).setCell ⟨tb, 1, none⟩ (.int .i64 y2)).setCell ⟨tb, 2, none⟩ (.int .i64 u2)).setCell ⟨tb, 3, none⟩ (.int .i64 l2)) = wx at hk hHeld ⊢
            refine wpAnyH_done (by kernel_rfl) ?_ _
            go_wp2_with fail
            go_meet
            exact ⟨_, _, _, _, _, _, _, _, _, _, rfl, rfl, ht1, ht2, hk⟩
      · (try simp only [List.getElem_toArray, List.getElem_cons_succ, List.getElem_cons_zero])
        go_simp
        have hk2 := hk.allocA 0 0 0 0
        generalize wx.heap.size = ta at hk2 ⊢
        refine hK.out _ _ hk2.x.box (fun hHeld => ?_)
        clear hK K hk
        have hk := hk2
        clear hk2
        try simp only [List.getElem_toArray, List.getElem_cons_succ, List.getElem_cons_zero, Act.put, List.setIfInBounds_toArray, List.set_cons_zero, List.set_cons_succ]
        generalize wx.alloc (.cells #[.int .i64 0, .int .i64 0, .int .i64 0, .int .i64 0] 25) = wx at hk hHeld ⊢
        refine wpAnyH_ready (rs := [3, 9]) (by kernel_rfl) (by simp) ?_
        refine AllReadyH.cons (o := _) rfl (fun K hK => ?_) (AllReadyH.cons (o := _) rfl (fun K hK => ?_) AllReadyH.nil)
        · (try simp only [List.getElem_toArray, List.getElem_cons_succ, List.getElem_cons_zero])
          go_simp
          go_at_call 24
          refine (cT.out _ _ _ hk).mono ?_
          rintro e wy ⟨⟨k1, y1, u1, l1, rfl, ht1⟩, hk2⟩
          go_wp2_with fail
          refine hK.out _ _ hk2.x.box (fun hHeld => ?_)
          clear hK K hk
          have hk := hk2
          clear hk2
          try simp only [List.getElem_toArray, List.getElem_cons_succ, List.getElem_cons_zero, Act.put, List.setIfInBounds_toArray, List.set_cons_zero, List.set_cons_succ]
          clear hHeld
          have hHeld := hk.x.box
          generalize hwy : wy = wx at hk hHeld ⊢
          clear hwy
          refine wpAnyH_ready (rs := [7, 9]) (by kernel_rfl) (by simp) ?_
          refine AllReadyH.cons (o := _) rfl (fun K hK => ?_) (AllReadyH.cons (o := _) rfl (fun K hK => ?_) AllReadyH.nil)
          · (try simp only [List.getElem_toArray, List.getElem_cons_succ, List.getElem_cons_zero])
            go_simp
            go_at_call 24
            refine (cT.out _ _ _ hk).mono ?_
            rintro e wy ⟨⟨k2, y2, u2, l2, rfl, ht2⟩, hk2⟩
            go_wp2_with fail
            refine hK.out _ _ hk2.x.box (fun hHeld => ?_)
            clear hK K hk
            have hk := hk2
            clear hk2
            try simp only [List.getElem_toArray, List.getElem_cons_succ, List.getElem_cons_zero, Act.put, List.setIfInBounds_toArray, List.set_cons_zero, List.set_cons_succ]
            clear hHeld
            have hHeld := hk.x.box
            generalize hwy : wy = wx at hk hHeld ⊢
            clear hwy
            refine wpAnyH_ready (rs := [9]) (by kernel_rfl) (by simp) ?_
            refine AllReadyH.cons (o := _) rfl (fun K hK => ?_) AllReadyH.nil
            (try simp only [List.getElem_toArray, List.getElem_cons_succ, List.getElem_cons_zero])
            go_simp
            have hk2 := hk.allocB 0 0 0 0
            generalize wx.heap.size = tb at hk2 ⊢
            refine hK.out _ _ hk2.x.box (fun hHeld => ?_)
            clear hK K hk
            have hk := hk2
            clear hk2
            try simp only [List.getElem_toArray, List.getElem_cons_succ, List.getElem_cons_zero, Act.put, List.setIfInBounds_toArray, List.set_cons_zero, List.set_cons_succ]
            generalize wx.alloc (.cells #[.int .i64 0, .int .i64 0, .int .i64 0, .int .i64 0] 25) = wx at hk hHeld ⊢
            refine wpAnyH_ready (rs := [10]) (by kernel_rfl) (by simp) ?_
            refine AllReadyH.cons (o := _) rfl (fun K hK => ?_) AllReadyH.nil
            (try simp only [List.getElem_toArray, List.getElem_cons_succ, List.getElem_cons_zero])
            have hx := (hk.a _ _ _ _ _ rfl).1
            obtain ⟨z0, z1, z2, z3, _⟩ := hx.box
            have f0 := hx.free 0
            have f1 := hx.free 1
            have f2 := hx.free 2
            have f3 := hx.free 3
            clear hx
            go_simp
            have hk2 := hk.setA k1 y1 u1 l1
            unfold put4 at hk2
            refine hK.out _ _ hk2.x.box (fun hHeld => ?_)
            clear hK K hk
            have hk := hk2
            clear hk2
            try simp only [List.getElem_toArray, List.getElem_cons_succ, List.getElem_cons_zero, Act.put, List.setIfInBounds_toArray, List.set_cons_zero, List.set_cons_succ]
            generalize ((((wx.setCell ⟨ta, 0, none⟩ (.int .i64 k1)).setCell ⟨ta, 1, none⟩ (.int .i64 y1)).setCell ⟨ta, 2, none⟩ (.int .i64 u1)).setCell ⟨ta, 3, none⟩ (.int .i64 l1)) = wx at hk hHeld ⊢
            refine wpAnyH_ready (rs := [11]) (by kernel_rfl) (by simp) ?_
            refine AllReadyH.cons (o := _) rfl (fun K hK => ?_) AllReadyH.nil
            (try simp only [List.getElem_toArray, List.getElem_cons_succ, List.getElem_cons_zero])
            have hx := (hk.b _ _ _ _ _ rfl).1
            obtain ⟨z0, z1, z2, z3, _⟩ := hx.box
            have f0 := hx.free 0
            have f1 := hx.free 1
            have f2 := hx.free 2
            have f3 := hx.free 3
            clear hx
            go_simp
            have hk2 := hk.setB k2 y2 u2 l2
            unfold put4 at hk2
            refine hK.out _ _ hk2.x.box (fun hHeld => ?_)
            clear hK K hk
            have hk := hk2
            clear hk2
            try simp only [List.getElem_toArray, List.getElem_cons_succ, List.getElem_cons_zero, Act.put, List.setIfInBounds_toArray, List.set_cons_zero, List.set_cons_succ]
            generalize ((((wx.setCell ⟨tb, 0, none⟩ (.int .i64 k2)).setCell ⟨tb, 1, none⟩ (.int .i64 y2)).setCell ⟨tb, 2, none⟩ (.int .i64 u2)).setCell ⟨tb, 3, none⟩ (.int .i64 l2)) = wx at hk hHeld ⊢
            refine wpAnyH_done (by kernel_rfl) ?_ _
            go_wp2_with fail
            go_meet
            exact ⟨_, _, _, _, _, _, _, _, _, _, rfl, rfl, ht1, ht2, hk⟩
          · (try simp only [List.getElem_toArray, List.getElem_cons_succ, List.getElem_cons_zero])
            go_simp
            have hk2 := hk.allocB 0 0 0 0
            generalize wx.heap.size = tb at hk2 ⊢
            refine hK.out _ _ hk2.x.box (fun hHeld => ?_)
            clear hK K hk
            have hk := hk2
            clear hk2
            try simp only [List.getElem_toArray, List.getElem_cons_succ, List.getElem_cons_zero, Act.put, List.setIfInBounds_toArray, List.set_cons_zero, List.set_cons_succ]
            generalize wx.alloc (.cells #[.int .i64 0, .int .i64 0, .int .i64 0, .int .i64 0] 25) = wx at hk hHeld ⊢
            refine wpAnyH_ready (rs := [7]) (by kernel_rfl) (by simp) ?_
            refine AllReadyH.cons (o := _) rfl (fun K hK => ?_) AllReadyH.nil
            (try simp only [List.getElem_toArray, List.getElem_cons_succ, List.getElem_cons_zero])
            go_simp
            go_at_call 24
            refine (cT.out _ _ _ hk).mono ?_
            rintro e wy ⟨⟨k2, y2, u2, l2, rfl, ht2⟩, hk2⟩
            go_wp2_with fail
            refine hK.out _ _ hk2.x.box (fun hHeld => ?_)
            clear hK K hk
            have hk := hk2
            clear hk2
            try simp only [List.getElem_toArray, List.getElem_cons_succ, List.getElem_cons_zero, Act.put, List.setIfInBounds_toArray, List.set_cons_zero, List.set_cons_succ]
            clear hHeld
            have hHeld := hk.x.box
            generalize hwy : wy = wx at hk hHeld ⊢
            clear hwy
            refine wpAnyH_ready (rs := [10]) (by kernel_rfl) (by simp) ?_
            refine AllReadyH.cons (o := _) rfl (fun K hK => ?_) AllReadyH.nil
            (try simp only [List.getElem_toArray, List.getElem_cons_succ, List.getElem_cons_zero])
            have hx := (hk.a _ _ _ _ _ rfl).1
            obtain ⟨z0, z1, z2, z3, _⟩ := hx.box
            have f0 := hx.free 0
            have f1 := hx.free 1
            have f2 := hx.free 2
            have f3 := hx.free 3
            clear hx
            go_simp
            have hk2 := hk.setA k1 y1 u1 l1
            unfold put4 at hk2
            refine hK.out _ _ hk2.x.box (fun hHeld => ?_)
            clear hK K hk
            have hk := hk2
            clear hk2
            try simp only [List.getElem_toArray, List.getElem_cons_succ, List.getElem_cons_zero, Act.put, List.setIfInBounds_toArray, List.set_cons_zero, List.set_cons_succ]
            generalize ((((wx.setCell ⟨ta, 0, none⟩ (.int .i64 k1)).setCell ⟨ta, 1, none⟩ (.int .i64 y1)).setCell ⟨ta, 2, none⟩ (.int .i64 u1)).setCell ⟨ta, 3, none⟩ (.int .i64 l1)) = wx at hk hHeld ⊢
            refine wpAnyH_ready (rs := [11]) (by kernel_rfl) (by simp) ?_
            refine AllReadyH.cons (o := _) rfl (fun K hK => ?_) AllReadyH.nil
            (try simp only [List.getElem_toArray, List.getElem_cons_succ, List.getElem_cons_zero])
            have hx := (hk.b _ _ _ _ _ rfl).1
            obtain ⟨z0, z1, z2, z3, _⟩ := hx.box
            have f0 := hx.free 0
            have f1 := hx.free 1
            have f2 := hx.free 2
            have f3 := hx.free 3
            clear hx
            go_simp
            have hk2 := hk.setB k2 y2 u2 l2
            unfold put4 at hk2
            refine hK.out _ _ hk2.x.box (fun hHeld => ?_)
            clear hK K hk
            have hk := hk2
            clear hk2
            try simp only [List.getElem_toArray, List.getElem_cons_succ, List.getElem_cons_zero, Act.put, List.setIfInBounds_toArray, List.set_cons_zero, List.set_cons_succ]
            generalize ((((wx.setCell ⟨tb, 0, none⟩ (.int .i64 k2)).setCell ⟨tb, 1, none⟩ (.int .i64 y2)).setCell ⟨tb, 2, none⟩ (.int .i64 u2)).setCell ⟨tb, 3, none⟩ (.int .i64 l2)) = wx at hk hHeld ⊢
            refine wpAnyH_done (by kernel_rfl) ?_ _
            go_wp2_with fail
            go_meet
            exact ⟨_, _, _, _, _, _, _, _, _, _, rfl, rfl, ht1, ht2, hk⟩
        · (try simp only [List.getElem_toArray, List.getElem_cons_succ, List.getElem_cons_zero])
          go_simp
          have hk2 := hk.allocB 0 0 0 0
          generalize wx.heap.size = tb at hk2 ⊢
          refine hK.out _ _ hk2.x.box (fun hHeld => ?_)
          clear hK K hk
          have hk := hk2
          clear hk2
          try simp only [List.getElem_toArray, List.getElem_cons_succ, List.getElem_cons_zero, Act.put, List.setIfInBounds_toArray, List.set_cons_zero, List.set_cons_succ]
          generalize wx.alloc (.cells #[.int .i64 0, .int .i64 0, .int .i64 0, .int .i64 0] 25) = wx at hk hHeld ⊢
          refine wpAnyH_ready (rs := [3]) (by kernel_rfl) (by simp) ?_
          refine AllReadyH.cons (o := _) rfl (fun K hK => ?_) AllReadyH.nil
          (try simp only [List.getElem_toArray, List.getElem_cons_succ, List.getElem_cons_zero])
          go_simp
          go_at_call 24
          refine (cT.out _ _ _ hk).mono ?_
          rintro e wy ⟨⟨k1, y1, u1, l1, rfl, ht1⟩, hk2⟩
          go_wp2_with fail
          refine hK.out _ _ hk2.x.box (fun hHeld => ?_)
          clear hK K hk
          have hk := hk2
          clear hk2
          try simp only [List.getElem_toArray, List.getElem_cons_succ, List.getElem_cons_zero, Act.put, List.setIfInBounds_toArray, List.set_cons_zero, List.set_cons_succ]
          clear hHeld
          have hHeld := hk.x.box
          generalize hwy : wy = wx at hk hHeld ⊢
          clear hwy
          refine wpAnyH_ready (rs := [7]) (by kernel_rfl) (by simp) ?_
          refine AllReadyH.cons (o := _) rfl (fun K hK => ?_) AllReadyH.nil
          (try simp only [List.getElem_toArray, List.getElem_cons_succ, List.getElem_cons_zero])
          go_simp
          go_at_call 24
          refine (cT.out _ _ _ hk).mono ?_
          rintro e wy ⟨⟨k2, y2, u2, l2, rfl, ht2⟩, hk2⟩
          go_wp2_with fail
          refine hK.out _ _ hk2.x.box (fun hHeld => ?_)
          clear hK K hk
          have hk := hk2
          clear hk2
          try simp only [List.getElem_toArray, List.getElem_cons_succ, List.getElem_cons_zero, Act.put, List.setIfInBounds_toArray, List.set_cons_zero, List.set_cons_succ]
          clear hHeld
          have hHeld := hk.x.box
          generalize hwy : wy = wx at hk hHeld ⊢
          clear hwy
          refine wpAnyH_ready (rs := [10]) (by kernel_rfl) (by simp) ?_
          refine AllReadyH.cons (o := _) rfl (fun K hK => ?_) AllReadyH.nil
          (try simp only [List.getElem_toArray, List.getElem_cons_succ, List.getElem_cons_zero])
          have hx := (hk.a _ _ _ _ _ rfl).1
          obtain ⟨z0, z1, z2, z3, _⟩ := hx.box
          have f0 := hx.free 0
          have f1 := hx.free 1
          have f2 := hx.free 2
          have f3 := hx.free 3
          clear hx
          go_simp
          have hk2 := hk.setA k1 y1 u1 l1
          unfold put4 at hk2
          refine hK.out _ _ hk2.x.box (fun hHeld => ?_)
          clear hK K hk
          have hk := hk2
          clear hk2
          try simp only [List.getElem_toArray, List.getElem_cons_succ, List.getElem_cons_zero, Act.put, List.setIfInBounds_toArray, List.set_cons_zero, List.set_cons_succ]
          generalize ((((wx.setCell ⟨ta, 0, none⟩ (.int .i64 k1)).setCell ⟨ta, 1, none⟩ (.int .i64 y1)).setCell ⟨ta, 2, none⟩ (.int .i64 u1)).setCell ⟨ta, 3, none⟩ (.int .i64 l1)) = wx at hk hHeld ⊢
          refine wpAnyH_ready (rs := [11]) (by kernel_rfl) (by simp) ?_
          refine AllReadyH.cons (o := _) rfl (fun K hK => ?_) AllReadyH.nil
          (try simp only [List.getElem_toArray, List.getElem_cons_succ, List.getElem_cons_zero])
          have hx := (hk.b _ _ _ _ _ rfl).1
          obtain ⟨z0, z1, z2, z3, _⟩ := hx.box
          have f0 := hx.free 0
          have f1 := hx.free 1
          have f2 := hx.free 2
          have f3 := hx.free 3
          clear hx
          go_simp
          have hk2 := hk.setB k2 y2 u2 l2
          unfold put4 at hk2
          refine hK.out _ _ hk2.x.box (fun hHeld => ?_)
          clear hK K hk
          have hk := hk2
          clear hk2
          try simp only [List.getElem_toArray, List.getElem_cons_succ, List.getElem_cons_zero, Act.put, List.setIfInBounds_toArray, List.set_cons_zero, List.set_cons_succ]
          generalize ((((wx.setCell ⟨tb, 0, none⟩ (.int .i64 k2)).setCell ⟨tb, 1, none⟩ (.int .i64 y2)).setCell ⟨tb, 2, none⟩ (.int .i64 u2)).setCell ⟨tb, 3, none⟩ (.int .i64 l2)) = wx at hk hHeld ⊢
          refine wpAnyH_done (by kernel_rfl) ?_ _
          go_wp2_with fail
          go_meet
          exact ⟨_, _, _, _, _, _, _, _, _, _, rfl, rfl, ht1, ht2, hk⟩
      · (try simp only [List.getElem_toArray, List.getElem_cons_succ, List.getElem_cons_zero])
        go_simp
        have hk2 := hk.allocB 0 0 0 0
        generalize wx.heap.size = tb at hk2 ⊢
        refine hK.out _ _ hk2.x.box (fun hHeld => ?_)
        clear hK K hk
        have hk := hk2
        clear hk2
        try simp only [List.getElem_toArray, List.getElem_cons_succ, List.getElem_cons_zero, Act.put, List.setIfInBounds_toArray, List.set_cons_zero, List.set_cons_succ]
        generalize wx.alloc (.cells #[.int .i64 0, .int .i64 0, .int .i64 0, .int .i64 0] 25) = wx at hk hHeld ⊢
        refine wpAnyH_ready (rs := [3, 8]) (by kernel_rfl) (by simp) ?_
        refine AllReadyH.cons (o := _) rfl (fun K hK => ?_) (AllReadyH.cons (o := _) rfl (fun K hK => ?_) AllReadyH.nil)
        · (try simp only [List.getElem_toArray, List.getElem_cons_succ, List.getElem_cons_zero])
          go_simp
          go_at_call 24
          refine (cT.out _ _ _ hk).mono ?_
          rintro e wy ⟨⟨k1, y1, u1, l1, rfl, ht1⟩, hk2⟩
          go_wp2_with fail
          refine hK.out _ _ hk2.x.box (fun hHeld => ?_)
          clear hK K hk
          have hk := hk2
          clear hk2
          try simp only [List.getElem_toArray, List.getElem_cons_succ, List.getElem_cons_zero, Act.put, List.setIfInBounds_toArray, List.set_cons_zero, List.set_cons_succ]
          clear hHeld
          have hHeld := hk.x.box
          generalize hwy : wy = wx at hk hHeld ⊢
          clear hwy
          refine wpAnyH_ready (rs := [7, 8]) (by kernel_rfl) (by simp) ?_
          refine AllReadyH.cons (o := _) rfl (fun K hK => ?_) (AllReadyH.cons (o := _) rfl (fun K hK => ?_) AllReadyH.nil)
          · (try simp only [List.getElem_toArray, List.getElem_cons_succ, List.getElem_cons_zero])
            go_simp
            go_at_call 24
            refine (cT.out _ _ _ hk).mono ?_
            rintro e wy ⟨⟨k2, y2, u2, l2, rfl, ht2⟩, hk2⟩
            go_wp2_with fail
            refine hK.out _ _ hk2.x.box (fun hHeld => ?_)
            clear hK K hk
            have hk := hk2
            clear hk2
            try simp only [List.getElem_toArray, List.getElem_cons_succ, List.getElem_cons_zero, Act.put, List.setIfInBounds_toArray, List.set_cons_zero, List.set_cons_succ]
            clear hHeld
            have hHeld := hk.x.box
            generalize hwy : wy = wx at hk hHeld ⊢
            clear hwy
            refine wpAnyH_ready (rs := [8]) (by kernel_rfl) (by simp) ?_
            refine AllReadyH.cons (o := _) rfl (fun K hK => ?_) AllReadyH.nil
            (try simp only [List.getElem_toArray, List.getElem_cons_succ, List.getElem_cons_zero])
            go_simp
            have hk2 := hk.allocA 0 0 0 0
            generalize wx.heap.size = ta at hk2 ⊢
            refine hK.out _ _ hk2.x.box (fun hHeld => ?_)
            clear hK K hk
            have hk := hk2
            clear hk2
            try simp only [List.getElem_toArray, List.getElem_cons_succ, List.getElem_cons_zero, Act.put, List.setIfInBounds_toArray, List.set_cons_zero, List.set_cons_succ]
            generalize wx.alloc (.cells #[.int .i64 0, .int .i64 0, .int .i64 0, .int .i64 0] 25) = wx at hk hHeld ⊢
            refine wpAnyH_ready (rs := [10]) (by kernel_rfl) (by simp) ?_
            refine AllReadyH.cons (o := _) rfl (fun K hK => ?_) AllReadyH.nil
            (try simp only [List.getElem_toArray, List.getElem_cons_succ, List.getElem_cons_zero])
            have hx := (hk.a _ _ _ _ _ rfl).1
            obtain ⟨z0, z1, z2, z3, _⟩ := hx.box
            have f0 := hx.free 0
            have f1 := hx.free 1
            have f2 := hx.free 2
            have f3 := hx.free 3
            clear hx
            go_simp
            have hk2 := hk.setA k1 y1 u1 l1
            unfold put4 at hk2
            refine hK.out _ _ hk2.x.box (fun hHeld => ?_)
            clear hK K hk
            have hk := hk2
            clear hk2
            try simp only [List.getElem_toArray, List.getElem_cons_succ, List.getElem_cons_zero, Act.put, List.setIfInBounds_toArray, List.set_cons_zero, List.set_cons_succ]
            generalize ((((wx.setCell ⟨ta, 0, none⟩ (.int .i64 k1)).setCell ⟨ta, 1, none⟩ (.int .i64 y1)).setCell ⟨ta, 2, none⟩ (.int .i64 u1)).setCell ⟨ta, 3, none⟩ (.int .i64 l1)) = wx at hk hHeld ⊢
            refine wpAnyH_ready (rs := [11]) (by kernel_rfl) (by simp) ?_
            refine AllReadyH.cons (o := _) rfl (fun K hK => ?_) AllReadyH.nil
            (try simp only [List.getElem_toArray, List.getElem_cons_succ, List.getElem_cons_zero])
            have hx := (hk.b _ _ _ _ _ rfl).1
            obtain ⟨z0, z1, z2, z3, _⟩ := hx.box
            have f0 := hx.free 0
            have f1 := hx.free 1
            have f2 := hx.free 2
            have f3 := hx.free 3
            clear hx
            go_simp
            have hk2 := hk.setB k2 y2 u2 l2
            unfold put4 at hk2
            refine hK.out _ _ hk2.x.box (fun hHeld => ?_)
            clear hK K hk
            have hk := hk2
            clear hk2
            try simp only [List.getElem_toArray, List.getElem_cons_succ, List.getElem_cons_zero, Act.put, List.setIfInBounds_toArray, List.set_cons_zero, List.set_cons_succ]
            generalize ((((wx.setCell ⟨tb, 0, none⟩ (.int .i64 k2)).setCell ⟨tb, 1, none⟩ (.int .i64 y2)).setCell ⟨tb, 2, none⟩ (.int .i64 u2)).setCell ⟨tb, 3, none⟩ (.int .i64 l2)) = wx at hk hHeld ⊢
            refine wpAnyH_done (by kernel_rfl) ?_ _
            go_wp2_with fail
            go_meet
            exact ⟨_, _, _, _, _, _, _, _, _, _, rfl, rfl, ht1, ht2, hk⟩
          · (try simp only [List.getElem_toArray, List.getElem_cons_succ, List.getElem_cons_zero])
            go_simp
            have hk2 := hk.allocA 0 0 0 0
            generalize wx.heap.size = ta at hk2 ⊢
            refine hK.out _ _ hk2.x.box (fun hHeld => ?_)
            clear hK K hk
            have hk := hk2
            clear hk2
            try simp only [List.getElem_toArray, List.getElem_cons_succ, List.getElem_cons_zero, Act.put, List.setIfInBounds_toArray, List.set_cons_zero, List.set_cons_succ]
            generalize wx.alloc (.cells #[.int .i64 0, .int .i64 0, .int .i64 0, .int .i64 0] 25) = wx at hk hHeld ⊢
            refine wpAnyH_ready (rs := [7]) (by kernel_rfl) (by simp) ?_
            refine AllReadyH.cons (o := _) rfl (fun K hK => ?_) AllReadyH.nil
            (try simp only [List.getElem_toArray, List.getElem_cons_succ, List.getElem_cons_zero])
            go_simp
            go_at_call 24
            refine (cT.out _ _ _ hk).mono ?_
            rintro e wy ⟨⟨k2, y2, u2, l2, rfl, ht2⟩, hk2⟩
            go_wp2_with fail
            refine hK.out _ _ hk2.x.box (fun hHeld => ?_)
            clear hK K hk
            have hk := hk2
            clear hk2
            try simp only [List.getElem_toArray, List.getElem_cons_succ, List.getElem_cons_zero, Act.put, List.setIfInBounds_toArray, List.set_cons_zero, List.set_cons_succ]
            clear hHeld
            have hHeld := hk.x.box
            generalize hwy : wy = wx at hk hHeld ⊢
            clear hwy
            refine wpAnyH_ready (rs := [10]) (by kernel_rfl) (by simp) ?_
            refine AllReadyH.cons (o := _) rfl (fun K hK => ?_) AllReadyH.nil
            (try simp only [List.getElem_toArray, List.getElem_cons_succ, List.getElem_cons_zero])
            have hx := (hk.a _ _ _ _ _ rfl).1
            obtain ⟨z0, z1, z2, z3, _⟩ := hx.box
            have f0 := hx.free 0
            have f1 := hx.free 1
            have f2 := hx.free 2
            have f3 := hx.free 3
            clear hx
            go_simp
            have hk2 := hk.setA k1 y1 u1 l1
            unfold put4 at hk2
            refine hK.out _ _ hk2.x.box (fun hHeld => ?_)
            clear hK K hk
            have hk := hk2
            clear hk2
            try simp only [List.getElem_toArray, List.getElem_cons_succ, List.getElem_cons_zero, Act.put, List.setIfInBounds_toArray, List.set_cons_zero, List.set_cons_succ]
            generalize ((((wx.setCell ⟨ta, 0, none⟩ (.int .i64 k1)).setCell ⟨ta, 1, none⟩ (.int .i64 y1)).setCell ⟨ta, 2, none⟩ (.int .i64 u1)).setCell ⟨ta, 3, none⟩ (.int .i64 l1)) = wx at hk hHeld ⊢
            refine wpAnyH_ready (rs := [11]) (by kernel_rfl) (by simp) ?_
            refine AllReadyH.cons (o := _) rfl (fun K hK => ?_) AllReadyH.nil
            (try simp only [List.getElem_toArray, List.getElem_cons_succ, List.getElem_cons_zero])
            have hx := (hk.b _ _ _ _ _ rfl).1
            obtain ⟨z0, z1, z2, z3, _⟩ := hx.box
            have f0 := hx.free 0
            have f1 := hx.free 1
            have f2 := hx.free 2
            have f3 := hx.free 3
            clear hx
            go_simp
            have hk2 := hk.setB k2 y2 u2 l2
            unfold put4 at hk2
            refine hK.out _ _ hk2.x.box (fun hHeld => ?_)
            clear hK K hk
            have hk := hk2
            clear hk2
            try simp only [List.getElem_toArray, List.getElem_cons_succ, List.getElem_cons_zero, Act.put, List.setIfInBounds_toArray, List.set_cons_zero, List.set_cons_succ]
            generalize ((((wx.setCell ⟨tb, 0, none⟩ (.int .i64 k2)).setCell ⟨tb, 1, none⟩ (.int .i64 y2)).setCell ⟨tb, 2, none⟩ (.int .i64 u2)).setCell ⟨tb, 3, none⟩ (.int .i64 l2)) = wx at hk hHeld ⊢
            refine wpAnyH_done (by kernel_rfl) ?_ _
            go_wp2_with fail
            go_meet
            exact ⟨_, _, _, _, _, _, _, _, _, _, rfl, rfl, ht1, ht2, hk⟩
        · (try simp only [List.getElem_toArray, List.getElem_cons_succ, List.getElem_cons_zero])
          go_simp
          have hk2 := hk.allocA 0 0 0 0
          generalize wx.heap.size = ta at hk2 ⊢
          refine hK.out _ _ hk2.x.box (fun hHeld => ?_)
          clear hK K hk
          have hk := hk2
          clear hk2
          try simp only [List.getElem_toArray, List.getElem_cons_succ, List.getElem_cons_zero, Act.put, List.setIfInBounds_toArray, List.set_cons_zero, List.set_cons_succ]
          generalize wx.alloc (.cells #[.int .i64 0, .int .i64 0, .int .i64 0, .int .i64 0] 25) = wx at hk hHeld ⊢
          refine wpAnyH_ready (rs := [3]) (by kernel_rfl) (by simp) ?_
          refine AllReadyH.cons (o := _) rfl (fun K hK => ?_) AllReadyH.nil
          (try simp only [List.getElem_toArray, List.getElem_cons_succ, List.getElem_cons_zero])
          go_simp
          go_at_call 24
          refine (cT.out _ _ _ hk).mono ?_
          rintro e wy ⟨⟨k1, y1, u1, l1, rfl, ht1⟩, hk2⟩
          go_wp2_with fail
          refine hK.out _ _ hk2.x.box (fun hHeld => ?_)
          clear hK K hk
          have hk := hk2
          clear hk2
          try simp only [List.getElem_toArray, List.getElem_cons_succ, List.getElem_cons_zero, Act.put, List.setIfInBounds_toArray, List.set_cons_zero, List.set_cons_succ]
          clear hHeld
          have hHeld := hk.x.box
          generalize hwy : wy = wx at hk hHeld ⊢
          clear hwy
          refine wpAnyH_ready (rs := [7]) (by kernel_rfl) (by simp) ?_
          refine AllReadyH.cons (o := _) rfl (fun K hK => ?_) AllReadyH.nil
          (try simp only [List.getElem_toArray, List.getElem_cons_succ, List.getElem_cons_zero])
          go_simp
          go_at_call 24
          refine (cT.out _ _ _ hk).mono ?_
          rintro e wy ⟨⟨k2, y2, u2, l2, rfl, ht2⟩, hk2⟩
          go_wp2_with fail
          refine hK.out _ _ hk2.x.box (fun hHeld => ?_)
          clear hK K hk
          have hk := hk2
          clear hk2
          try simp only [List.getElem_toArray, List.getElem_cons_succ, List.getElem_cons_zero, Act.put, List.setIfInBounds_toArray, List.set_cons_zero, List.set_cons_succ]
          clear hHeld
          have hHeld := hk.x.box
          generalize hwy : wy = wx at hk hHeld ⊢
          clear hwy
          refine wpAnyH_ready (rs := [10]) (by kernel_rfl) (by simp) ?_
          refine AllReadyH.cons (o := _) rfl (fun K hK => ?_) AllReadyH.nil
          (try simp only [List.getElem_toArray, List.getElem_cons_succ, List.getElem_cons_zero])
          have hx := (hk.a _ _ _ _ _ rfl).1
          obtain ⟨z0, z1, z2, z3, _⟩ := hx.box
          have f0 := hx.free 0
          have f1 := hx.free 1
          have f2 := hx.free 2
          have f3 := hx.free 3
          clear hx
          go_simp
          have hk2 := hk.setA k1 y1 u1 l1
          unfold put4 at hk2
          refine hK.out _ _ hk2.x.box (fun hHeld => ?_)
          clear hK K hk
          have hk := hk2
          clear hk2
          try simp only [List.getElem_toArray, List.getElem_cons_succ, List.getElem_cons_zero, Act.put, List.setIfInBounds_toArray, List.set_cons_zero, List.set_cons_succ]
          generalize ((((wx.setCell ⟨ta, 0, none⟩ (.int .i64 k1)).setCell ⟨ta, 1, none⟩ (.int .i64 y1)).setCell ⟨ta, 2, none⟩ (.int .i64 u1)).setCell ⟨ta, 3, none⟩ (.int .i64 l1)) = wx at hk hHeld ⊢
          refine wpAnyH_ready (rs := [11]) (by kernel_rfl) (by simp) ?_
          refine AllReadyH.cons (o := _) rfl (fun K hK => ?_) AllReadyH.nil
          (try simp only [List.getElem_toArray, List.getElem_cons_succ, List.getElem_cons_zero])
          have hx := (hk.b _ _ _ _ _ rfl).1
          obtain ⟨z0, z1, z2, z3, _⟩ := hx.box
          have f0 := hx.free 0
          have f1 := hx.free 1
          have f2 := hx.free 2
          have f3 := hx.free 3
          clear hx
          go_simp
          have hk2 := hk.setB k2 y2 u2 l2
          unfold put4 at hk2
          refine hK.out _ _ hk2.x.box (fun hHeld => ?_)
          clear hK K hk
          have hk := hk2
          clear hk2
          try simp only [List.getElem_toArray, List.getElem_cons_succ, List.getElem_cons_zero, Act.put, List.setIfInBounds_toArray, List.set_cons_zero, List.set_cons_succ]
          generalize ((((wx.setCell ⟨tb, 0, none⟩ (.int .i64 k2)).setCell ⟨tb, 1, none⟩ (.int .i64 y2)).setCell ⟨tb, 2, none⟩ (.int .i64 u2)).setCell ⟨tb, 3, none⟩ (.int .i64 l2)) = wx at hk hHeld ⊢
          refine wpAnyH_done (by kernel_rfl) ?_ _
          go_wp2_with fail
          go_meet
          exact ⟨_, _, _, _, _, _, _, _, _, _, rfl, rfl, ht1, ht2, hk⟩
    case rest =>
      obtain ⟨ta, tb, ka, ya, ua, la, kb, yb, ub, lb, rfl, rfl, hma, hmb, hk⟩ := hcut
      have cO : Hid (∀ (d s b m : Int) oa ob W (n : Int), n ≤ 4294967296 → 1 ≤ n → RS w1 w.heap.size c A L tg d s b m oa ob W → Calls Tryd.prog 25 #[.pointer (some ⟨w.heap.size, 0, none⟩), .int .i64 n] W fun e w' => (∃ r : Bool, e = .returned (.bool r)) ∧ RS w1 w.heap.size c A L tg d s b m oa ob w') :=
        hid (fun d s b m oa ob W n h1 h2 hk => by
          obtain ⟨k0, h0⟩ := hk.e
          refine (one_any w.heap.size c _ A L n h1 h2 W h0.d).mono ?_
          rintro e w' ⟨h1, h2, h3⟩
          exact ⟨h1, hk.roll h2 h3⟩)
      have cOT : Hid (∀ (d s b m k y u l : Int) oa ob W, Small4 k y u l → RS w1 w.heap.size c A L tg d s b m oa ob W → Calls Tryd.prog 26 #[.pointer (some ⟨w.heap.size, 0, none⟩), .agg #[.int .i64 k, .int .i64 y, .int .i64 u, .int .i64 l]] W fun e w' => (∃ k y u l : Int, e = .returned (.agg #[.int .i64 k, .int .i64 y, .int .i64 u, .int .i64 l]) ∧ Small4 k y u l) ∧ RS w1 w.heap.size c A L tg d s b m oa ob w') :=
        hid (fun d s b m k y u l oa ob W hs hk => by
          obtain ⟨k0, h0⟩ := hk.e
          refine (oddTime_any w.heap.size c _ A L k y u l hs W h0.d).mono ?_
          rintro e w' ⟨k, y, u, l, k', h1, h2, h3⟩
          exact ⟨⟨k, y, u, l, h1, h2⟩, hk.de h3⟩)
      have cOG : Hid (∀ (d s b m : Int) oa ob W, Small4 d s b m → RS w1 w.heap.size c A L tg d s b m oa ob W → Calls Tryd.prog 27 #[.pointer (some ⟨w.heap.size, 0, none⟩), .agg #[.int .i64 d, .int .i64 s, .int .i64 b, .int .i64 m]] W fun e w' => (∃ k y u l : Int, e = .returned (.agg #[.int .i64 k, .int .i64 y, .int .i64 u, .int .i64 l]) ∧ Small4 k y u l) ∧ RS w1 w.heap.size c A L tg d s b m oa ob w') :=
        hid (fun d s b m oa ob W hs hk => by
          obtain ⟨k0, h0⟩ := hk.e
          refine (oddGrid_any w.heap.size c _ A L d s b m hs W h0.d).mono ?_
          rintro e w' ⟨k, y, u, l, k', h1, h2, h3⟩
          exact ⟨⟨k, y, u, l, h1, h2⟩, hk.de h3⟩)
      have HBR : Hid (∀ (d s b m : Int) oa ob W, RS w1 w.heap.size c A L tg d s b m oa ob W → Below w.heap.size w W) := hid (fun d s b m oa ob W hk => by
        obtain ⟨k0, h0⟩ := hk.e
        exact HB.out _ _ h0)
      have hsg : Small4 d s b m := by
        obtain ⟨m1, m2, m3, m4⟩ := HMG.out
        exact ⟨by omega, by omega, by omega, by omega⟩
      have hpn := pow_mono (show n ≤ 20 by omega)
      have hsa : Small4 ka ya ua la := by
        obtain ⟨m1, m2, m3, m4, m5⟩ := hma
        exact ⟨by omega, by omega, by omega, by omega⟩
      have hsb : ub ≤ 4611686018427387904 := by
        obtain ⟨m1, m2, m3, m4, m5⟩ := hmb
        omega
      have hua := hsa.2.2.1
      clear hma hmb hpn cT HW HMG cK HN g1 g2 hn1 hn2 hni hgl
      obtain ⟨g0, g1, g2, g3, _⟩ := hk.x.box
      obtain ⟨a0, a1, a2, a3, _⟩ := (hk.a _ _ _ _ _ rfl).1.box
      obtain ⟨b0, b1, b2, b3, _⟩ := (hk.b _ _ _ _ _ rfl).1.box
      have fa0 := (hk.a _ _ _ _ _ rfl).1.free 0
      have fa1 := (hk.a _ _ _ _ _ rfl).1.free 1
      have fa2 := (hk.a _ _ _ _ _ rfl).1.free 2
      have fa3 := (hk.a _ _ _ _ _ rfl).1.free 3
      have fg0 := hk.x.free 0
      have fg1 := hk.x.free 1
      have fg2 := hk.x.free 2
      have fg3 := hk.x.free 3
      go_wp2_with fail
      refine (cO.out _ _ _ _ _ _ _ 4 (by omega) (by omega) hk).mono ?_
      rintro e w6 ⟨⟨r4, rfl⟩, hk2⟩
      clear hk g0 g1 g2 g3 a0 a1 a2 a3 b0 b1 b2 b3 fa0 fa1 fa2 fa3 fg0 fg1 fg2 fg3
      have hk := hk2
      clear hk2
      cases r4 with
      | false =>
        obtain ⟨g0, g1, g2, g3, _⟩ := hk.x.box
        obtain ⟨a0, a1, a2, a3, _⟩ := (hk.a _ _ _ _ _ rfl).1.box
        obtain ⟨b0, b1, b2, b3, _⟩ := (hk.b _ _ _ _ _ rfl).1.box
        have fa0 := (hk.a _ _ _ _ _ rfl).1.free 0
        have fa1 := (hk.a _ _ _ _ _ rfl).1.free 1
        have fa2 := (hk.a _ _ _ _ _ rfl).1.free 2
        have fa3 := (hk.a _ _ _ _ _ rfl).1.free 3
        have fg0 := hk.x.free 0
        have fg1 := hk.x.free 1
        have fg2 := hk.x.free 2
        have fg3 := hk.x.free 3
        go_wp2_with fail
        refine (cO.out _ _ _ _ _ _ _ 5 (by omega) (by omega) hk).mono ?_
        rintro e w7 ⟨⟨r5, rfl⟩, hk2⟩
        clear hk g0 g1 g2 g3 a0 a1 a2 a3 b0 b1 b2 b3 fa0 fa1 fa2 fa3 fg0 fg1 fg2 fg3
        have hk := hk2
        clear hk2
        cases r5 with
        | false =>
          obtain ⟨g0, g1, g2, g3, _⟩ := hk.x.box
          obtain ⟨a0, a1, a2, a3, _⟩ := (hk.a _ _ _ _ _ rfl).1.box
          obtain ⟨b0, b1, b2, b3, _⟩ := (hk.b _ _ _ _ _ rfl).1.box
          have fa0 := (hk.a _ _ _ _ _ rfl).1.free 0
          have fa1 := (hk.a _ _ _ _ _ rfl).1.free 1
          have fa2 := (hk.a _ _ _ _ _ rfl).1.free 2
          have fa3 := (hk.a _ _ _ _ _ rfl).1.free 3
          have fg0 := hk.x.free 0
          have fg1 := hk.x.free 1
          have fg2 := hk.x.free 2
          have fg3 := hk.x.free 3
          go_wp2_with fail
          refine (times_any d s b m (n : Int) ka ya ua la kb yb ub lb (by omega) (by omega) _ (HE.out _ (HBR.out _ _ _ _ _ _ _ hk)) (HDY.out _ (HBR.out _ _ _ _ _ _ _ hk))).mono ?_
          rintro e w8 ⟨rfl, hb8⟩
          have HB8 := hid ((HBR.out _ _ _ _ _ _ _ hk).trans (hb8.mono (HBR.out _ _ _ _ _ _ _ hk).size))
          clear hb8
          go_wp2
          go_ret
          exact ⟨rfl, HB8.out⟩
        | true =>
          obtain ⟨g0, g1, g2, g3, _⟩ := hk.x.box
          obtain ⟨a0, a1, a2, a3, _⟩ := (hk.a _ _ _ _ _ rfl).1.box
          obtain ⟨b0, b1, b2, b3, _⟩ := (hk.b _ _ _ _ _ rfl).1.box
          have fa0 := (hk.a _ _ _ _ _ rfl).1.free 0
          have fa1 := (hk.a _ _ _ _ _ rfl).1.free 1
          have fa2 := (hk.a _ _ _ _ _ rfl).1.free 2
          have fa3 := (hk.a _ _ _ _ _ rfl).1.free 3
          have fg0 := hk.x.free 0
          have fg1 := hk.x.free 1
          have fg2 := hk.x.free 2
          have fg3 := hk.x.free 3
          go_wp2_with fail
          refine (cOG.out _ _ _ _ _ _ _ hsg hk).mono ?_
          rintro e w9 ⟨⟨dq, sq, bq, mq, rfl, hs2⟩, hk2⟩
          clear hk g0 g1 g2 g3 a0 a1 a2 a3 b0 b1 b2 b3 fa0 fa1 fa2 fa3 fg0 fg1 fg2 fg3
          have hk := hk2
          clear hk2
          obtain ⟨g0, g1, g2, g3, _⟩ := hk.x.box
          obtain ⟨a0, a1, a2, a3, _⟩ := (hk.a _ _ _ _ _ rfl).1.box
          obtain ⟨b0, b1, b2, b3, _⟩ := (hk.b _ _ _ _ _ rfl).1.box
          have fa0 := (hk.a _ _ _ _ _ rfl).1.free 0
          have fa1 := (hk.a _ _ _ _ _ rfl).1.free 1
          have fa2 := (hk.a _ _ _ _ _ rfl).1.free 2
          have fa3 := (hk.a _ _ _ _ _ rfl).1.free 3
          have fg0 := hk.x.free 0
          have fg1 := hk.x.free 1
          have fg2 := hk.x.free 2
          have fg3 := hk.x.free 3
          have hk2 := hk.setG dq sq bq mq
          unfold put4 at hk2
          obtain ⟨p0, p1, p2, p3, _⟩ := hk2.x.box
          obtain ⟨r0, r1, r2, r3, _⟩ := (hk2.a _ _ _ _ _ rfl).1.box
          obtain ⟨s0, s1, s2, s3, _⟩ := (hk2.b _ _ _ _ _ rfl).1.box
          obtain ⟨q1, q2, q3, q4⟩ := hs2
          go_wp2_with fail
          clear hk g0 g1 g2 g3 a0 a1 a2 a3 b0 b1 b2 b3 fa0 fa1 fa2 fa3 fg0 fg1 fg2 fg3
          have hk := hk2
          clear hk2
          refine (times_any dq sq bq mq (n : Int) ka ya ua la kb yb ub lb (by omega) (by omega) _ (HE.out _ (HBR.out _ _ _ _ _ _ _ hk)) (HDY.out _ (HBR.out _ _ _ _ _ _ _ hk))).mono ?_
          rintro e w8 ⟨rfl, hb8⟩
          have HB8 := hid ((HBR.out _ _ _ _ _ _ _ hk).trans (hb8.mono (HBR.out _ _ _ _ _ _ _ hk).size))
          clear hb8
          go_wp2
          go_ret
          exact ⟨rfl, HB8.out⟩
      | true =>
        obtain ⟨g0, g1, g2, g3, _⟩ := hk.x.box
        obtain ⟨a0, a1, a2, a3, _⟩ := (hk.a _ _ _ _ _ rfl).1.box
        obtain ⟨b0, b1, b2, b3, _⟩ := (hk.b _ _ _ _ _ rfl).1.box
        have fa0 := (hk.a _ _ _ _ _ rfl).1.free 0
        have fa1 := (hk.a _ _ _ _ _ rfl).1.free 1
        have fa2 := (hk.a _ _ _ _ _ rfl).1.free 2
        have fa3 := (hk.a _ _ _ _ _ rfl).1.free 3
        have fg0 := hk.x.free 0
        have fg1 := hk.x.free 1
        have fg2 := hk.x.free 2
        have fg3 := hk.x.free 3
        go_wp2_with fail
        refine (cOT.out _ _ _ _ _ _ _ _ _ _ _ hsa hk).mono ?_
        rintro e w6 ⟨⟨k9, y9, u9, l9, rfl, hs9⟩, hk2⟩
        clear hk g0 g1 g2 g3 a0 a1 a2 a3 b0 b1 b2 b3 fa0 fa1 fa2 fa3 fg0 fg1 fg2 fg3
        have hk := hk2
        clear hk2
        obtain ⟨g0, g1, g2, g3, _⟩ := hk.x.box
        obtain ⟨a0, a1, a2, a3, _⟩ := (hk.a _ _ _ _ _ rfl).1.box
        obtain ⟨b0, b1, b2, b3, _⟩ := (hk.b _ _ _ _ _ rfl).1.box
        have fa0 := (hk.a _ _ _ _ _ rfl).1.free 0
        have fa1 := (hk.a _ _ _ _ _ rfl).1.free 1
        have fa2 := (hk.a _ _ _ _ _ rfl).1.free 2
        have fa3 := (hk.a _ _ _ _ _ rfl).1.free 3
        have fg0 := hk.x.free 0
        have fg1 := hk.x.free 1
        have fg2 := hk.x.free 2
        have fg3 := hk.x.free 3
        have hk2 := hk.setA k9 y9 u9 l9
        unfold put4 at hk2
        have hu9 := hs9.2.2.1
        go_wp2_with fail
        clear hk g0 g1 g2 g3 a0 a1 a2 a3 b0 b1 b2 b3 fa0 fa1 fa2 fa3 fg0 fg1 fg2 fg3
        have hk := hk2
        clear hk2
        refine (cO.out _ _ _ _ _ _ _ 5 (by omega) (by omega) hk).mono ?_
        rintro e w7 ⟨⟨r5, rfl⟩, hk2⟩
        clear hk
        have hk := hk2
        clear hk2
        cases r5 with
        | false =>
          obtain ⟨g0, g1, g2, g3, _⟩ := hk.x.box
          obtain ⟨a0, a1, a2, a3, _⟩ := (hk.a _ _ _ _ _ rfl).1.box
          obtain ⟨b0, b1, b2, b3, _⟩ := (hk.b _ _ _ _ _ rfl).1.box
          have fa0 := (hk.a _ _ _ _ _ rfl).1.free 0
          have fa1 := (hk.a _ _ _ _ _ rfl).1.free 1
          have fa2 := (hk.a _ _ _ _ _ rfl).1.free 2
          have fa3 := (hk.a _ _ _ _ _ rfl).1.free 3
          have fg0 := hk.x.free 0
          have fg1 := hk.x.free 1
          have fg2 := hk.x.free 2
          have fg3 := hk.x.free 3
          go_wp2_with fail
          refine (times_any d s b m (n : Int) k9 y9 u9 l9 kb yb ub lb (by omega) (by omega) _ (HE.out _ (HBR.out _ _ _ _ _ _ _ hk)) (HDY.out _ (HBR.out _ _ _ _ _ _ _ hk))).mono ?_
          rintro e w8 ⟨rfl, hb8⟩
          have HB8 := hid ((HBR.out _ _ _ _ _ _ _ hk).trans (hb8.mono (HBR.out _ _ _ _ _ _ _ hk).size))
          clear hb8
          go_wp2
          go_ret
          exact ⟨rfl, HB8.out⟩
        | true =>
          obtain ⟨g0, g1, g2, g3, _⟩ := hk.x.box
          obtain ⟨a0, a1, a2, a3, _⟩ := (hk.a _ _ _ _ _ rfl).1.box
          obtain ⟨b0, b1, b2, b3, _⟩ := (hk.b _ _ _ _ _ rfl).1.box
          have fa0 := (hk.a _ _ _ _ _ rfl).1.free 0
          have fa1 := (hk.a _ _ _ _ _ rfl).1.free 1
          have fa2 := (hk.a _ _ _ _ _ rfl).1.free 2
          have fa3 := (hk.a _ _ _ _ _ rfl).1.free 3
          have fg0 := hk.x.free 0
          have fg1 := hk.x.free 1
          have fg2 := hk.x.free 2
          have fg3 := hk.x.free 3
          go_wp2_with fail
          refine (cOG.out _ _ _ _ _ _ _ hsg hk).mono ?_
          rintro e w9 ⟨⟨dq, sq, bq, mq, rfl, hs2⟩, hk2⟩
          clear hk g0 g1 g2 g3 a0 a1 a2 a3 b0 b1 b2 b3 fa0 fa1 fa2 fa3 fg0 fg1 fg2 fg3
          have hk := hk2
          clear hk2
          obtain ⟨g0, g1, g2, g3, _⟩ := hk.x.box
          obtain ⟨a0, a1, a2, a3, _⟩ := (hk.a _ _ _ _ _ rfl).1.box
          obtain ⟨b0, b1, b2, b3, _⟩ := (hk.b _ _ _ _ _ rfl).1.box
          have fa0 := (hk.a _ _ _ _ _ rfl).1.free 0
          have fa1 := (hk.a _ _ _ _ _ rfl).1.free 1
          have fa2 := (hk.a _ _ _ _ _ rfl).1.free 2
          have fa3 := (hk.a _ _ _ _ _ rfl).1.free 3
          have fg0 := hk.x.free 0
          have fg1 := hk.x.free 1
          have fg2 := hk.x.free 2
          have fg3 := hk.x.free 3
          have hk2 := hk.setG dq sq bq mq
          unfold put4 at hk2
          obtain ⟨p0, p1, p2, p3, _⟩ := hk2.x.box
          obtain ⟨r0, r1, r2, r3, _⟩ := (hk2.a _ _ _ _ _ rfl).1.box
          obtain ⟨s0, s1, s2, s3, _⟩ := (hk2.b _ _ _ _ _ rfl).1.box
          obtain ⟨q1, q2, q3, q4⟩ := hs2
          go_wp2_with fail
          clear hk g0 g1 g2 g3 a0 a1 a2 a3 b0 b1 b2 b3 fa0 fa1 fa2 fa3 fg0 fg1 fg2 fg3
          have hk := hk2
          clear hk2
          refine (times_any dq sq bq mq (n : Int) k9 y9 u9 l9 kb yb ub lb (by omega) (by omega) _ (HE.out _ (HBR.out _ _ _ _ _ _ _ hk)) (HDY.out _ (HBR.out _ _ _ _ _ _ _ hk))).mono ?_
          rintro e w8 ⟨rfl, hb8⟩
          have HB8 := hid ((HBR.out _ _ _ _ _ _ _ hk).trans (hb8.mono (HBR.out _ _ _ _ _ _ _ hk).size))
          clear hb8
          go_wp2
          go_ret
          exact ⟨rfl, HB8.out⟩
  · rw [decide_eq_false hl] at cL
    clear hE hDy h
    go_enter Tryd.func4, Tryd.ntmps4
    go_wp2_with fail
    refine cL.mono ?_
    rintro e w' ⟨rfl, rfl⟩
    go_wp2_with fail
    refine (cK.out _ (Below.refl _ _)).mono ?_
    rintro e w1 ⟨rfl, hb1⟩
    have HB1 := hid hb1
    clear hb1
    go_wp2
    go_ret
    exact ⟨rfl, HB1.out⟩
end Go.Proofs.YtibbiddadkinhaaDoor

