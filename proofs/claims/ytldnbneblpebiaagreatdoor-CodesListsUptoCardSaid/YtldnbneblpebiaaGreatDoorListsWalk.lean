/-
  The walk of CodesLists: the program's List and the reference's, at a raw string and at made codes with a change. Conditions: the library's variables hold what its text lays; the string has at most 2^21 bytes; the numbers lie in memory.
-/
import Derived.Test.YtldnbneblpebiaaGreatDoorReturnsWalk
import Derived.Test.YtldnbneblpebiaaGreatDoorRJoin
import Derived.Test.YtldnbneblpebiaaGreatDoorRList
import Derived.Test.YtldnbneblpebiaaGreatDoorSpoil
set_option linter.unusedVariables false
namespace Go.Proofs.YtldnbneblpebiaaGreatDoor
open Go Go.Proofs Go.RowKit Go.Lib

theorem join_le (l : List Str) (h : checkM l = 0) : (ba (joinM l)).size ≤ 100000 := by
  obtain ⟨h64, hv⟩ := check_valid h
  have h1 := semi_len (partsL l) (parts_short _ l (Nat.le_refl _) hv)
  have h2 := partsL_len _ l (Nat.le_refl _)
  have h3 : joinM l = semi (partsL l) := rfl
  rw [ba_size, h3]
  omega
theorem below_step {a b c : World} (h : Below a.heap.size a b) (k : Below b.heap.size b c) : Below a.heap.size a c := h.trans (k.mono h.size)

set_option maxHeartbeats 8000000 in
set_option maxRecDepth 100000 in
theorem lists_any (s : ByteArray) (hs : s.size ≤ 2097152) (A : Option Addr) (L : List Int) (c : Nat) (w : World) (hI : IntsIn w w.heap.size A L) (hE : Env w) :
    Calls Tryz.prog 5 #[.string s, .slice A L.length c] w fun e w' => e = .returned (.bool true) ∧ Below w.heap.size w w' := by
  have cL := light_any A L.length c
  have HE := hid hE
  clear hE
  by_cases hl : L.length ≤ 400
  · rw [decide_eq_true hl] at cL
    have cR := roll_any A L c hl w hI
    obtain ⟨g, hg⟩ : ∃ g, w.heap.size = g := ⟨_, rfl⟩
    have CR := hid cR
    have HA : Hid (∀ (S : ByteArray), S.size ≤ 2097152 → ∀ wx, Below w.heap.size w wx → Calls Tryz.prog 20 #[.string S] wx (ListOut (listM (lst S)) wx)) := hid (fun S h wx hb => list_any S (by omega) wx (HE.out.below hb))
    have HR : Hid (∀ (S : ByteArray), S.size ≤ 2097152 → ∀ wx, Below w.heap.size w wx → Calls Tryz.prog 21 #[.string S] wx (ListOut (listM (lst S)) wx)) := hid (fun S h wx hb => rlist_any S h wx)
    have cA := HA.out s hs
    have cB := HR.out s hs
    obtain ⟨⟨l1, e1⟩, h1⟩ : ∃ r, listM (lst s) = r := ⟨_, rfl⟩
    rw [h1] at cA cB
    have CA := hid cA
    have CB := hid cB
    have t1 : (e1 == e1) = true := by simp
    clear cR hI cA cB h1 hs
    go_enter Tryz.func5, Tryz.ntmps5
    go_wp2_with fail
    refine (cL _).mono ?_
    rintro e w' ⟨rfl, rfl⟩
    go_wp2_with fail
    refine CR.out.mono ?_
    rintro e w1 ⟨rfl, hd1, hb1⟩
    rw [hg] at hd1 ⊢
    have hgle : w.heap.size ≤ g := by omega
    clear hg
    have hsz1 := hb1.size
    have HB1 := hid hb1
    have CF := hid (codes_any g c 0 A L 14 (by omega) w1 hd1)
    clear hd1 hb1 cL CR
    go_wp2_with fail
    refine CF.out.mono ?_
    rintro e w2 ⟨v, l, rfl, hk, hrow, hce⟩
    obtain ⟨A2, c2, rfl, hc1, hc2, hin⟩ := hrow.strsIn
    have HB2 := hid (HB1.out.trans (hce.p.toBelow hsz1 hgle))
    have hin2 := hin.mono (P' := fun b => b < w2.heap.size) (fun b h => h.2)
    obtain ⟨kd, hd2⟩ := hce.d
    have hgl2 := hd2.lt
    have cJ := rjoin_any A2 l c2 w2 hin2 hc1 hc2
    unfold JoinOut at cJ
    rw [if_pos hk, hk] at cJ
    have hjs := join_le l hk
    obtain ⟨J, hJ⟩ : ∃ J, ba (joinM l) = J := ⟨_, rfl⟩
    rw [hJ] at cJ hjs
    have CJ := hid cJ
    have HD2 := hid hd2
    clear cJ hin2 hin hrow hce CF HB1 hk hJ hd2
    go_wp2_with fail
    refine CJ.out.mono ?_
    rintro e w3 ⟨rfl, hb3⟩
    have HB3 := hid (HB2.out.trans (hb3.mono HB2.out.size))
    have hd3 := HD2.out.below hb3 hgl2
    have CO := hid (one_any g c kd A L 2 (by omega) (by omega) w3 hd3)
    clear hb3 hd3 hgl2 HD2 HB2 CJ
    go_wp2_with fail
    refine CO.out.mono ?_
    rintro e w4 ⟨⟨r, rfl⟩, ⟨k4, hd4⟩, hR4⟩
    have HB4 := hid (HB3.out.trans (hR4.below hgle))
    have HD4 := hid hd4
    clear hd4 hR4 CO HB3
    cases r with
    | false =>
      have HBm : Hid (Below w.heap.size w w4) := HB4
      obtain ⟨M, hM⟩ : ∃ M, J = M := ⟨_, rfl⟩
      subst hM
      have hMs : J.size ≤ 100001 := by omega
      clear hjs HB4 HD4
      have cX := HA.out J (by omega)
      have cY := HR.out J (by omega)
      obtain ⟨⟨l2, e2⟩, hr2⟩ : ∃ r, listM (lst J) = r := ⟨_, rfl⟩
      rw [hr2] at cX cY
      have CX := hid cX
      have CY := hid cY
      have t2 : (e2 == e2) = true := by simp
      clear hr2 cX cY hMs
      go_wp2_with fail
      refine (CA.out _ HBm.out).mono ?_
      rintro e w6 ⟨⟨va, rfl, hrow6⟩, hb6⟩
      dsimp only at hrow6 ⊢
      obtain ⟨A6, c6, rfl, p1, p2, hin6⟩ := hrow6.strsIn
      have HI6 := hid (hin6.mono (P' := fun b => b < w6.heap.size) (fun b h => h.2))
      have HB6 := hid (HBm.out.trans (hb6.mono HBm.out.size))
      clear hrow6 hin6 hb6
      go_wp2_with fail
      refine (CB.out _ HB6.out).mono ?_
      rintro e w7 ⟨⟨vb, rfl, hrow7⟩, hb7⟩
      dsimp only at hrow7 ⊢
      obtain ⟨A7, c7, rfl, _, _, hin7⟩ := hrow7.strsIn
      have HI7 := hid (hin7.mono (P' := fun b => b < w7.heap.size) (fun b h => h.2))
      have HB7 := hid (HB6.out.trans (hb7.mono HB6.out.size))
      have K67 := hid hb7
      clear hrow7 hin7 hb7
      go_wp2_with fail
      refine (CX.out _ HB7.out).mono ?_
      rintro e w8 ⟨⟨vx, rfl, hrow8⟩, hb8⟩
      dsimp only at hrow8 ⊢
      obtain ⟨A8, c8, rfl, p3, p4, hin8⟩ := hrow8.strsIn
      have HI8 := hid (hin8.mono (P' := fun b => b < w8.heap.size) (fun b h => h.2))
      have HB8 := hid (HB7.out.trans (hb8.mono HB7.out.size))
      have K68 := hid (below_step K67.out hb8)
      have K78 := hid hb8
      clear hrow8 hin8 hb8
      go_wp2_with fail
      refine (CY.out _ HB8.out).mono ?_
      rintro e w9 ⟨⟨vy, rfl, hrow9⟩, hb9⟩
      dsimp only at hrow9 ⊢
      obtain ⟨A9, c9, rfl, _, _, hin9⟩ := hrow9.strsIn
      have HI9 := hid (hin9.mono (P' := fun b => b < w9.heap.size) (fun b h => h.2))
      have HB9 := hid (HB8.out.trans (hb9.mono HB8.out.size))
      have K69 := hid (below_step K68.out hb9)
      have K79 := hid (below_step K78.out hb9)
      have K89 := hid hb9
      clear hrow9 hin9 hb9
      go_wp2_with fail
      refine (awake_any w9 (HE.out.below HB9.out)).mono ?_
      rintro e wt ⟨rfl, hbt⟩
      have HBt := hid (HB9.out.trans (hbt.mono HB9.out.size))
      have K6 := hid (below_step K69.out hbt)
      have K7 := hid (below_step K79.out hbt)
      have K8 := hid (below_step K89.out hbt)
      have K9 := hid hbt
      have cS := sameStrings_any A6 A7 l1 l1 c6 c7 _ _ wt (HI6.out.kept (w' := wt) (fun b hb => K6.out.block b hb)) (HI7.out.kept (w' := wt) (fun b hb => K7.out.block b hb)) (by omega)
      rw [show decide (l1 = l1) = true by simp] at cS
      have CS := hid cS
      clear cS hbt
      go_wp2_with fail
      refine CS.out.mono ?_
      rintro e wu ⟨rfl, q, hq⟩
      have HBu : Hid (Below w.heap.size w wu) := hid (by rw [hq]; exact below_drewN HBt.out q)
      have K8u : Below w8.heap.size w8 wu := by rw [hq]; exact below_drewN K8.out q
      have K9u : Below w9.heap.size w9 wu := by rw [hq]; exact below_drewN K9.out q
      have cU := sameStrings_any A8 A9 l2 l2 c8 c9 _ _ wu (HI8.out.kept (w' := wu) (fun b hb => K8u.block b hb)) (HI9.out.kept (w' := wu) (fun b hb => K9u.block b hb)) (by omega)
      rw [show decide (l2 = l2) = true by simp] at cU
      have CU := hid cU
      clear cU hq K8u K9u
      go_wp2_with fail
      refine CU.out.mono ?_
      rintro e wv ⟨rfl, q2, hq2⟩
      have HBv : Hid (Below w.heap.size w wv) := hid (by rw [hq2]; exact below_drewN HBu.out q2)
      clear hq2
      go_wp2
      go_ret
      exact ⟨rfl, HBv.out⟩
    | true =>
      have cP := hid (spoil_any g c k4 A L J ⟨#[59, 46, 48, 65, 95, 49, 32]⟩ (by omega) (by decide) (by decide) w4 HD4.out)
      clear HD4
      go_wp2_with fail
      refine cP.out.mono ?_
      rintro e w5 ⟨⟨l5, rfl, hll⟩, _, hP5⟩
      have hsz4 := HB4.out.size
      have HBm := hid (HB4.out.trans (hP5.toBelow hsz4 hgle))
      obtain ⟨M, hM⟩ : ∃ M : ByteArray, ⟨l5.toArray⟩ = M := ⟨_, rfl⟩
      have hMs : M.size ≤ 100001 := by rw [← hM]; show l5.length ≤ _; omega
      rw [hM]
      clear hjs HB4 hP5 hsz4 hM hll cP
      have cX := HA.out M (by omega)
      have cY := HR.out M (by omega)
      obtain ⟨⟨l2, e2⟩, hr2⟩ : ∃ r, listM (lst M) = r := ⟨_, rfl⟩
      rw [hr2] at cX cY
      have CX := hid cX
      have CY := hid cY
      have t2 : (e2 == e2) = true := by simp
      clear hr2 cX cY hMs
      go_wp2_with fail
      refine (CA.out _ HBm.out).mono ?_
      rintro e w6 ⟨⟨va, rfl, hrow6⟩, hb6⟩
      dsimp only at hrow6 ⊢
      obtain ⟨A6, c6, rfl, p1, p2, hin6⟩ := hrow6.strsIn
      have HI6 := hid (hin6.mono (P' := fun b => b < w6.heap.size) (fun b h => h.2))
      have HB6 := hid (HBm.out.trans (hb6.mono HBm.out.size))
      clear hrow6 hin6 hb6
      go_wp2_with fail
      refine (CB.out _ HB6.out).mono ?_
      rintro e w7 ⟨⟨vb, rfl, hrow7⟩, hb7⟩
      dsimp only at hrow7 ⊢
      obtain ⟨A7, c7, rfl, _, _, hin7⟩ := hrow7.strsIn
      have HI7 := hid (hin7.mono (P' := fun b => b < w7.heap.size) (fun b h => h.2))
      have HB7 := hid (HB6.out.trans (hb7.mono HB6.out.size))
      have K67 := hid hb7
      clear hrow7 hin7 hb7
      go_wp2_with fail
      refine (CX.out _ HB7.out).mono ?_
      rintro e w8 ⟨⟨vx, rfl, hrow8⟩, hb8⟩
      dsimp only at hrow8 ⊢
      obtain ⟨A8, c8, rfl, p3, p4, hin8⟩ := hrow8.strsIn
      have HI8 := hid (hin8.mono (P' := fun b => b < w8.heap.size) (fun b h => h.2))
      have HB8 := hid (HB7.out.trans (hb8.mono HB7.out.size))
      have K68 := hid (below_step K67.out hb8)
      have K78 := hid hb8
      clear hrow8 hin8 hb8
      go_wp2_with fail
      refine (CY.out _ HB8.out).mono ?_
      rintro e w9 ⟨⟨vy, rfl, hrow9⟩, hb9⟩
      dsimp only at hrow9 ⊢
      obtain ⟨A9, c9, rfl, _, _, hin9⟩ := hrow9.strsIn
      have HI9 := hid (hin9.mono (P' := fun b => b < w9.heap.size) (fun b h => h.2))
      have HB9 := hid (HB8.out.trans (hb9.mono HB8.out.size))
      have K69 := hid (below_step K68.out hb9)
      have K79 := hid (below_step K78.out hb9)
      have K89 := hid hb9
      clear hrow9 hin9 hb9
      go_wp2_with fail
      refine (awake_any w9 (HE.out.below HB9.out)).mono ?_
      rintro e wt ⟨rfl, hbt⟩
      have HBt := hid (HB9.out.trans (hbt.mono HB9.out.size))
      have K6 := hid (below_step K69.out hbt)
      have K7 := hid (below_step K79.out hbt)
      have K8 := hid (below_step K89.out hbt)
      have K9 := hid hbt
      have cS := sameStrings_any A6 A7 l1 l1 c6 c7 _ _ wt (HI6.out.kept (w' := wt) (fun b hb => K6.out.block b hb)) (HI7.out.kept (w' := wt) (fun b hb => K7.out.block b hb)) (by omega)
      rw [show decide (l1 = l1) = true by simp] at cS
      have CS := hid cS
      clear cS hbt
      go_wp2_with fail
      refine CS.out.mono ?_
      rintro e wu ⟨rfl, q, hq⟩
      have HBu : Hid (Below w.heap.size w wu) := hid (by rw [hq]; exact below_drewN HBt.out q)
      have K8u : Below w8.heap.size w8 wu := by rw [hq]; exact below_drewN K8.out q
      have K9u : Below w9.heap.size w9 wu := by rw [hq]; exact below_drewN K9.out q
      have cU := sameStrings_any A8 A9 l2 l2 c8 c9 _ _ wu (HI8.out.kept (w' := wu) (fun b hb => K8u.block b hb)) (HI9.out.kept (w' := wu) (fun b hb => K9u.block b hb)) (by omega)
      rw [show decide (l2 = l2) = true by simp] at cU
      have CU := hid cU
      clear cU hq K8u K9u
      go_wp2_with fail
      refine CU.out.mono ?_
      rintro e wv ⟨rfl, q2, hq2⟩
      have HBv : Hid (Below w.heap.size w wv) := hid (by rw [hq2]; exact below_drewN HBu.out q2)
      clear hq2
      go_wp2
      go_ret
      exact ⟨rfl, HBv.out⟩
  · rw [decide_eq_false hl] at cL
    clear hI hs
    go_enter Tryz.func5, Tryz.ntmps5
    go_wp2_with fail
    refine (cL _).mono ?_
    rintro e w' ⟨rfl, rfl⟩
    go_wp2_with fail
    refine (awake_any _ HE.out).mono ?_
    rintro e w1 ⟨rfl, hb1⟩
    have HB1 := hid hb1
    clear hb1
    go_wp2
    go_ret
    exact ⟨rfl, HB1.out⟩
end Go.Proofs.YtldnbneblpebiaaGreatDoor
