/-
  The walk of TravelValid, given that the sanity check holds. Conditions: the table lies in memory.
-/
import Derived.Test.YtocmbifljkcmeaaDoorR8Z
import Derived.Test.YtocmbifljkcmeaaDoorR8Y
import Derived.Test.YtocmbifljkcmeaaDoorR8H
import Derived.Test.YtocmbifljkcmeaaDoorR8I
import Derived.Test.YtocmbifljkcmeaaDoorR7P
import Derived.Deep.RegionHeld3
set_option linter.unusedVariables false
namespace Go.Proofs.YtocmbifljkcmeaaDoor
open Go Go.Proofs Go.RowKit Go.Lib

theorem closeM_small (t : TabD) : (closeM t).1.1.length ≤ 9223372036854775807 ∧ (closeM t).1.2.length ≤ 9223372036854775807 ∧ ∀ i, ((closeM t).1.2.getD i []).length ≤ 9223372036854775807 := by
  unfold closeM
  by_cases h : validT t ≠ 0
  · rw [if_pos h]
    exact ⟨by simp, by simp, fun i => by simp⟩
  · rw [if_neg h]
    obtain ⟨h8, _, _⟩ := validT_zero (t := t) (by simpa using h)
    refine ⟨by dsimp only; omega, by dsimp only; rw [tabF_len]; omega, fun i => ?_⟩
    dsimp only
    by_cases hi : i < t.1.length
    · have hl : i < (tabF (closeF t) t.1.length).length := by rw [tabF_len]; exact hi
      have hg := List.getElem?_eq_getElem hl
      obtain ⟨_, hr⟩ := tabF_get _ _ hg
      have e : (tabF (closeF t) t.1.length).getD i [] = (tabF (closeF t) t.1.length)[i] := by simp [List.getD, hg]
      rw [e, hr, List.length_map, List.length_range]
      omega
    · rw [List.getD_eq_getElem?_getD, List.getElem?_eq_none (by rw [tabF_len]; omega)]
      simp
/-- Behind all four calls. -/
structure VK8 (w0 w2 : World) (v0 v1 : Value) (P1 : Nat) (a0 a1 : Value) (P2 : Nat) (b0 b1 : Value) (w : World) : Prop where
  g : KT w0 v0 v1 w
  p : Box2 w P1 25 a0 a1
  q : Box2 w P2 25 b0 b1
  b : Below w2.heap.size w2 w
theorem VK8.next {w0 w2 w w' : World} {v0 v1 a0 a1 b0 b1 : Value} {P1 P2 : Nat} (h : VK8 w0 w2 v0 v1 P1 a0 a1 P2 b0 b1 w) (k : Below w.heap.size w w') : VK8 w0 w2 v0 v1 P1 a0 a1 P2 b0 b1 w' := ⟨h.g.next k, h.p.next k, h.q.next k, h.b.trans (k.mono h.b.size)⟩
theorem VK8.cells {w0 w2 w : World} {v0 v1 a0 a1 b0 b1 : Value} {P1 P2 : Nat} (h : VK8 w0 w2 v0 v1 P1 a0 a1 P2 b0 b1 w) : w.cell? ⟨w0.heap.size, 0, none⟩ = some v0 ∧ w.cell? ⟨w0.heap.size, 1, none⟩ = some v1 ∧ w.cell? ⟨P1, 0, none⟩ = some a0 ∧ w.cell? ⟨P1, 1, none⟩ = some a1 ∧ w.cell? ⟨P2, 0, none⟩ = some b0 ∧ w.cell? ⟨P2, 1, none⟩ = some b1 := by
  obtain ⟨x0, x1, _, _⟩ := id h.g
  exact ⟨x0, x1, h.p.c0, h.p.c1, h.q.c0, h.q.c1⟩
set_option maxHeartbeats 16000000 in
set_option maxRecDepth 100000 in
theorem tvalidLaw_any (A S : Option Addr) (l : List Str) (R : List (List Int)) (c d : Nat) (x y : ByteArray) (w : World) (h : TravIn w (fun b => b < w.heap.size) A S (l, R)) (hc : l.length ≤ c) (hc2 : c ≤ 9223372036854775807) (h64 : R.length ≤ 9223372036854775807) (hA : A = none → c = 0)
    (hAw : ∀ w', Below w.heap.size w w' → Calls Tryd.prog 5 #[] w' (Says (.bool true) w')) :
    Calls Tryd.prog 3 #[.agg #[.slice A l.length c, .slice S R.length d], .string x, .string y] w fun e w' => e = .returned (.bool true) ∧ Below w.heap.size w w' := by
  have hk := KT.first w (.slice A l.length c) (.slice S R.length d) 25
  have HK := hid hk
  have hin : ∀ w', Below w.heap.size w w' → TravIn w' (fun b => b < w'.heap.size) A S (l, R) := fun w' hb => (h.below hb).mono (fun k hk => Nat.lt_of_lt_of_le hk hb.size)
  have cW := fun w' (hb : Below w.heap.size w w') => twrite_any A S l R c d w' (hin w' hb) hc hc2 h64
  have cR := fun w' (hb : Below w.heap.size w w') => rtwrite_any A S l R c d w' (hin w' hb) hc hc2 h64
  have cC := fun w' (hb : Below w.heap.size w w') => tclose_any A S l R c d w' (hin w' hb) hc hc2 h64
  have cD := fun w' (hb : Below w.heap.size w w') => rtclose_any A S l R c d w' (hin w' hb) hc hc2 h64 hA
  have cV := fun w' (hb : Below w.heap.size w w') => tvalid_any A S l R c d w' (hin w' hb) hc hc2 h64
  have cQ := fun w' (hb : Below w.heap.size w w') => rtvalid_any A S l R c d w' (hin w' hb) hc hc2 h64
  have cB := fun w' (hb : Below w.heap.size w w') => tbetw_any A S l R c d x y w' (hin w' hb) (by omega) h64
  have cE := fun w' (hb : Below w.heap.size w w') => rtbetw_any A S l R c d x y w' (hin w' hb) (by omega) h64
  have hsm := closeM_small (l, R)
  unfold WriteOut at cW cR
  unfold CloseOut at cC cD
  unfold Says at cV cQ cB cE hAw
  obtain ⟨⟨RL, RE⟩, hO⟩ : ∃ O, writeT (l, R) = O := ⟨_, rfl⟩
  obtain ⟨⟨⟨CL, CT⟩, CE⟩, hC⟩ : ∃ O, closeM (l, R) = O := ⟨_, rfl⟩
  obtain ⟨V, hV⟩ : ∃ V, validT (l, R) = V := ⟨_, rfl⟩
  obtain ⟨BB, hBB⟩ : ∃ B, betwM (l, R) (lst x) (lst y) = B := ⟨_, rfl⟩
  rw [hO] at cW cR
  rw [hC] at cC cD hsm
  rw [hV] at cV cQ
  rw [hBB] at cB cE
  dsimp only at hsm
  have CW := hid cW
  have CR := hid cR
  have CC := hid cC
  have CD := hid cD
  have CV := hid cV
  have CQ := hid cQ
  have CB := hid cB
  have CE' := hid cE
  have CA := hid hAw
  have HSM := hid hsm
  obtain ⟨L, hL⟩ : ∃ n, l.length = n := ⟨_, rfl⟩
  obtain ⟨NR, hNR⟩ : ∃ n, R.length = n := ⟨_, rfl⟩
  rw [hL, hNR] at HK CW CR CC CD CV CQ CB CE'
  rw [hL, hNR]
  obtain ⟨g0, g1, _, _⟩ := id HK.out
  clear hk h hin cW cR cC cD cV cQ cB cE hAw hO hC hV hBB hsm hL hNR
  by_cases h40 : 40 < L
  · have h40z : (40 : Int) < (L : Int) := by omega
    clear CW CR CC CD CV CQ CB CE'
    go_enter Tryd.func3, Tryd.ntmps3
    go_wp2_with fail
    refine (CA.out _ HK.out.b).mono ?_
    rintro e w1 ⟨rfl, hb1⟩
    have HB1 := hid (HK.out.b.trans (hb1.mono HK.out.b.size))
    clear hb1 g0 g1
    go_wp2
    go_ret
    exact ⟨rfl, HB1.out⟩
  · have h40z : ¬ (40 : Int) < (L : Int) := by omega
    go_enter Tryd.func3, Tryd.ntmps3
    go_wp2_with fail
    refine (CW.out _ HK.out.b).mono ?_
    rintro e w1 ⟨⟨v1, L1, hL1, rfl, hr1⟩, hb1⟩
    have HK1 := hid (HK.out.next hb1)
    have HR1 := hid hr1
    clear g0 g1 HK hb1 hr1
    obtain ⟨g0, g1, _, _⟩ := id HK1.out
    go_wp2_with fail
    refine (CR.out _ HK1.out.b).mono ?_
    rintro e w2 ⟨⟨v2, L2, hL2, rfl, hr2⟩, hb2⟩
    have HK2 := hid (HK1.out.next hb2)
    have HB2 := hid hb2
    have HR2 := hid hr2
    clear g0 g1 HK1 hb2 hr2
    obtain ⟨g0, g1, _, _⟩ := id HK2.out
    go_wp2_with fail
    refine (CC.out _ HK2.out.b).mono ?_
    rintro e w3 ⟨⟨A3, c3, S3, d3, rfl, hT3⟩, hb3⟩
    have hb4 := (Below.refl w3.heap.size w3).alloc (Nat.le_refl _) (.cells #[.slice A3 CL.length c3, .slice S3 CT.length d3] 25)
    have hx4 := Box2.new w3 25 (.slice A3 CL.length c3) (.slice S3 CT.length d3)
    have hs4 : (w3.alloc (.cells #[.slice A3 CL.length c3, .slice S3 CT.length d3] 25)).heap.size = w3.heap.size + 1 := by simp
    obtain ⟨w4, hw4⟩ : ∃ W, w3.alloc (.cells #[.slice A3 CL.length c3, .slice S3 CT.length d3] 25) = W := ⟨_, rfl⟩
    rw [hw4] at hb4 hx4 hs4
    have hk4 := (HK2.out.next hb3).next hb4
    have HK4 := hid hk4
    have HB24 := hid (hb3.trans (hb4.mono hb3.size))
    have HT4 : Hid (TravIn w4 (fun b => b < w4.heap.size) A3 S3 (CL, CT)) := hid ((hT3.kept (fun b hb => hb4.block b hb.2)).mono (fun b hb => by omega))
    have HX4 := hid hx4
    have HW4 := hid hw4
    clear hb3 hb4 hx4 hs4 hT3 hk4 hw4 HK2
    clear g0 g1
    obtain ⟨g0, g1, _, _⟩ := id HK4.out
    go_upto_region 6 with fail
    (try rw [HW4.out])
    go_wp2_with fail
    refine (CD.out _ HK4.out.b).mono ?_
    rintro e w5 ⟨⟨A5, c5, S5, d5, rfl, hT5⟩, hb5⟩
    have hb6 := (Below.refl w5.heap.size w5).alloc (Nat.le_refl _) (.cells #[.slice A5 CL.length c5, .slice S5 CT.length d5] 25)
    have hx6 := Box2.new w5 25 (.slice A5 CL.length c5) (.slice S5 CT.length d5)
    have hs6 : (w5.alloc (.cells #[.slice A5 CL.length c5, .slice S5 CT.length d5] 25)).heap.size = w5.heap.size + 1 := by simp
    obtain ⟨w6, hw6⟩ : ∃ W, w5.alloc (.cells #[.slice A5 CL.length c5, .slice S5 CT.length d5] 25) = W := ⟨_, rfl⟩
    rw [hw6] at hb6 hx6 hs6
    have hb46 := hb5.trans (hb6.mono hb5.size)
    have hk' : VK8 w w6 (.slice A L c) (.slice S NR d) w3.heap.size (.slice A3 CL.length c3) (.slice S3 CT.length d3) w5.heap.size (.slice A5 CL.length c5) (.slice S5 CT.length d5) w6 := ⟨HK4.out.next hb46, HX4.out.next hb46, hx6, Below.refl _ _⟩
    have hT4' : TravIn w6 (fun b => b < w6.heap.size) A3 S3 (CL, CT) := (HT4.out.below hb46).mono (fun b hb => Nat.lt_of_lt_of_le hb hb46.size)
    have hT6 : TravIn w6 (fun b => b < w6.heap.size) A5 S5 (CL, CT) := (hT5.kept (fun b hb => hb6.block b hb.2)).mono (fun b hb => by omega)
    obtain ⟨Y1, k1, rfl, hl1, hm1, hi1⟩ := HR1.out.rowsIn
    obtain ⟨Y2, k2, rfl, hl2, hm2, hi2⟩ := HR2.out.rowsIn
    rw [hL1] at hi1
    rw [hL2] at hi2
    have e1 : L1.length = RL.length := by rw [← hL1, List.length_map]
    have e2 : L2.length = RL.length := by rw [← hL2, List.length_map]
    rw [e1] at hl1
    rw [e2] at hl2
    rw [e1, e2]
    have hb26 := HB24.out.trans (hb46.mono HB24.out.size)
    have hi2' : RowsIn w6 (fun k => k < w6.heap.size) Y2 RL := (hi2.kept (fun k hk => hb26.block k hk.2)).mono (fun k hk => Nat.lt_of_lt_of_le hk.2 hb26.size)
    have hb16 := HB2.out.trans (hb26.mono HB2.out.size)
    have hi1' : RowsIn w6 (fun k => k < w6.heap.size) Y1 RL := (hi1.kept (fun k hk => hb16.block k hk.2)).mono (fun k hk => Nat.lt_of_lt_of_le hk.2 hb16.size)
    have cA : Hid (∀ wx, VK8 w w6 (.slice A L c) (.slice S NR d) w3.heap.size (.slice A3 CL.length c3) (.slice S3 CT.length d3) w5.heap.size (.slice A5 CL.length c5) (.slice S5 CT.length d5) wx → Calls Tryd.prog 5 #[] wx fun e w' => e = .returned (.bool true) ∧ VK8 w w6 (.slice A L c) (.slice S NR d) w3.heap.size (.slice A3 CL.length c3) (.slice S3 CT.length d3) w5.heap.size (.slice A5 CL.length c5) (.slice S5 CT.length d5) w') := hid fun wx h => (CA.out wx h.g.b).mono fun e w' ⟨he, hb⟩ => ⟨he, h.next hb⟩
    have cV : Hid (∀ wx, VK8 w w6 (.slice A L c) (.slice S NR d) w3.heap.size (.slice A3 CL.length c3) (.slice S3 CT.length d3) w5.heap.size (.slice A5 CL.length c5) (.slice S5 CT.length d5) wx → Calls Tryd.prog 10 #[.agg #[.slice A L c, .slice S NR d]] wx fun e w' => e = .returned (.int .i64 V) ∧ VK8 w w6 (.slice A L c) (.slice S NR d) w3.heap.size (.slice A3 CL.length c3) (.slice S3 CT.length d3) w5.heap.size (.slice A5 CL.length c5) (.slice S5 CT.length d5) w') := hid fun wx h => (CV.out wx h.g.b).mono fun e w' ⟨he, hb⟩ => ⟨he, h.next hb⟩
    have cQ : Hid (∀ wx, VK8 w w6 (.slice A L c) (.slice S NR d) w3.heap.size (.slice A3 CL.length c3) (.slice S3 CT.length d3) w5.heap.size (.slice A5 CL.length c5) (.slice S5 CT.length d5) wx → Calls Tryd.prog 11 #[.agg #[.slice A L c, .slice S NR d]] wx fun e w' => e = .returned (.int .i64 V) ∧ VK8 w w6 (.slice A L c) (.slice S NR d) w3.heap.size (.slice A3 CL.length c3) (.slice S3 CT.length d3) w5.heap.size (.slice A5 CL.length c5) (.slice S5 CT.length d5) w') := hid fun wx h => (CQ.out wx h.g.b).mono fun e w' ⟨he, hb⟩ => ⟨he, h.next hb⟩
    have cB : Hid (∀ wx, VK8 w w6 (.slice A L c) (.slice S NR d) w3.heap.size (.slice A3 CL.length c3) (.slice S3 CT.length d3) w5.heap.size (.slice A5 CL.length c5) (.slice S5 CT.length d5) wx → Calls Tryd.prog 14 #[.agg #[.slice A L c, .slice S NR d], .string x, .string y] wx fun e w' => e = .returned (.int .i64 BB) ∧ VK8 w w6 (.slice A L c) (.slice S NR d) w3.heap.size (.slice A3 CL.length c3) (.slice S3 CT.length d3) w5.heap.size (.slice A5 CL.length c5) (.slice S5 CT.length d5) w') := hid fun wx h => (CB.out wx h.g.b).mono fun e w' ⟨he, hb⟩ => ⟨he, h.next hb⟩
    have cE : Hid (∀ wx, VK8 w w6 (.slice A L c) (.slice S NR d) w3.heap.size (.slice A3 CL.length c3) (.slice S3 CT.length d3) w5.heap.size (.slice A5 CL.length c5) (.slice S5 CT.length d5) wx → Calls Tryd.prog 15 #[.agg #[.slice A L c, .slice S NR d], .string x, .string y] wx fun e w' => e = .returned (.int .i64 BB) ∧ VK8 w w6 (.slice A L c) (.slice S NR d) w3.heap.size (.slice A3 CL.length c3) (.slice S3 CT.length d3) w5.heap.size (.slice A5 CL.length c5) (.slice S5 CT.length d5) w') := hid fun wx h => (CE'.out wx h.g.b).mono fun e w' ⟨he, hb⟩ => ⟨he, h.next hb⟩
    have cS : Hid (∀ wx, VK8 w w6 (.slice A L c) (.slice S NR d) w3.heap.size (.slice A3 CL.length c3) (.slice S3 CT.length d3) w5.heap.size (.slice A5 CL.length c5) (.slice S5 CT.length d5) wx → Calls Tryd.prog 12 #[.slice Y1 RL.length k1, .slice Y2 RL.length k2] wx fun e w' => e = .returned (.bool true) ∧ VK8 w w6 (.slice A L c) (.slice S NR d) w3.heap.size (.slice A3 CL.length c3) (.slice S3 CT.length d3) w5.heap.size (.slice A5 CL.length c5) (.slice S5 CT.length d5) w') := hid fun wx h =>
      (sameLists_any Y1 Y2 RL RL k1 k2 _ _ wx (hi1'.kept (fun k hk => h.b.block k hk)) (hi2'.kept (fun k hk => h.b.block k hk)) (by omega)).mono fun e w' ⟨he, q, hw⟩ => ⟨by rw [he, decide_eq_true rfl], by rw [hw]; exact h.next (below_drewN' (Below.refl _ _) q)⟩
    have cT : Hid (∀ wx, VK8 w w6 (.slice A L c) (.slice S NR d) w3.heap.size (.slice A3 CL.length c3) (.slice S3 CT.length d3) w5.heap.size (.slice A5 CL.length c5) (.slice S5 CT.length d5) wx → Calls Tryd.prog 13 #[.agg #[.slice A3 CL.length c3, .slice S3 CT.length d3], .agg #[.slice A5 CL.length c5, .slice S5 CT.length d5]] wx fun e w' => e = .returned (.bool true) ∧ VK8 w w6 (.slice A L c) (.slice S NR d) w3.heap.size (.slice A3 CL.length c3) (.slice S3 CT.length d3) w5.heap.size (.slice A5 CL.length c5) (.slice S5 CT.length d5) w') := hid fun wx h =>
      (same8_any A3 S3 A5 S5 CL CT c3 d3 c5 d5 wx ((hT4'.below h.b).mono (fun b hb => Nat.lt_of_lt_of_le hb h.b.size)) ((hT6.below h.b).mono (fun b hb => Nat.lt_of_lt_of_le hb h.b.size)) HSM.out.1 HSM.out.2.1 HSM.out.2.2).mono fun e w' ⟨he, hb⟩ => ⟨he, h.next hb⟩
    have HW6 := hid hw6
    obtain ⟨P1, hP1⟩ : ∃ p, w3.heap.size = p := ⟨_, rfl⟩
    obtain ⟨P2, hP2⟩ : ∃ p, w5.heap.size = p := ⟨_, rfl⟩
    have HP1 := hid hP1
    have HP2 := hid hP2
    rw [hP1, hP2] at hk' cA cV cQ cB cE cS cT
    clear CA CV CQ CW CR CC CD CB CE' hi1 hi2 hi1' hi2' hl1 hl2 hm1 hm2 HR1 HR2 HK4 HB2 HB24 HT4 HX4 hb5 hb6 hx6 hs6 hb46 hb26 hb16 hT4' hT6 hT5 hw6 g0 g1 hL1 hL2 e1 e2 hP1 hP2 HSM HW4
    go_upto_region 7 with fail
    (try rw [HW6.out])
    (try rw [HP1.out])
    (try rw [HP2.out])
    go_region_held3 (fun w' => w'.cell? ⟨w.heap.size, 0, none⟩ = some (.slice A L c) ∧ w'.cell? ⟨w.heap.size, 1, none⟩ = some (.slice S NR d) ∧ w'.cell? ⟨P1, 0, none⟩ = some (.slice A3 CL.length c3) ∧ w'.cell? ⟨P1, 1, none⟩ = some (.slice S3 CT.length d3) ∧ w'.cell? ⟨P2, 0, none⟩ = some (.slice A5 CL.length c5) ∧ w'.cell? ⟨P2, 1, none⟩ = some (.slice S5 CT.length d5))
      (first | with_reducible exact hk'.cells | with_reducible exact (hk'.next (Below.refl _ _).drew).cells)
      (first
        | (go_at_call 5; refine (cA.out _ (hk'.next (Below.refl _ _).drew)).mono ?_; rintro e w' ⟨rfl, hk'⟩)
        | (go_at_call 5; refine (cA.out _ hk').mono ?_; rintro e w' ⟨rfl, hk'⟩)
        | (go_at_call 10; refine (cV.out _ hk').mono ?_; rintro e w' ⟨rfl, hk'⟩)
        | (go_at_call 11; refine (cQ.out _ hk').mono ?_; rintro e w' ⟨rfl, hk'⟩)
        | (go_at_call 12; refine (cS.out _ hk').mono ?_; rintro e w' ⟨rfl, hk'⟩)
        | (go_at_call 13; refine (cT.out _ hk').mono ?_; rintro e w' ⟨rfl, hk'⟩)
        | (go_at_call 14; refine (cB.out _ hk').mono ?_; rintro e w' ⟨rfl, hk'⟩)
        | (go_at_call 15; refine (cE.out _ hk').mono ?_; rintro e w' ⟨rfl, hk'⟩))
    all_goals
      go_wp2_with fail
      go_ret
      exact ⟨rfl, hk'.g.b⟩
end Go.Proofs.YtocmbifljkcmeaaDoor
