/-
  The walk of CodesReturns: List of a joined list gives the list, at every list of numbers. Conditions: the library's variables hold what its text lays; the numbers lie in memory.
-/
import Derived.Test.YtldnbneblpebiaaGreatDoorMadeC
import Derived.Test.YtldnbneblpebiaaGreatDoorCJoin
import Derived.Test.YtldnbneblpebiaaGreatDoorJoinM
import Derived.Test.YtldnbneblpebiaaGreatDoorSame
import Derived.Test.YtldnbneblpebiaaGreatDoorAwake
set_option linter.unusedVariables false
namespace Go.Proofs.YtldnbneblpebiaaGreatDoor
open Go Go.Proofs Go.RowKit Go.Lib

theorem join_short (l : List Str) (h : checkM l = 0) : (ba (joinM l)).size < 4294967281 := by
  obtain ⟨h64, hv⟩ := check_valid h
  have h1 := semi_len (partsL l) (parts_short _ l (Nat.le_refl _) hv)
  have h2 := partsL_len _ l (Nat.le_refl _)
  have h3 : joinM l = semi (partsL l) := rfl
  rw [ba_size, h3]
  omega

set_option maxHeartbeats 8000000 in
set_option maxRecDepth 100000 in
theorem returns_any (A : Option Addr) (L : List Int) (c : Nat) (w : World) (hI : IntsIn w w.heap.size A L) (hE : Env w) :
    Calls Tryz.prog 7 #[.slice A L.length c] w fun e w' => e = .returned (.bool true) ∧ Below w.heap.size w w' := by
  have cL := light_any A L.length c
  have HE := hid hE
  clear hE
  by_cases hl : L.length ≤ 400
  · rw [decide_eq_true hl] at cL
    have cR := roll_any A L c hl w hI
    obtain ⟨g, hg⟩ : ∃ g, w.heap.size = g := ⟨_, rfl⟩
    have CR := hid cR
    clear cR hI
    go_enter Tryz.func7, Tryz.ntmps7
    go_wp2_with fail
    refine (cL _).mono ?_
    rintro e w' ⟨rfl, rfl⟩
    go_wp2_with fail
    refine CR.out.mono ?_
    rintro e w1 ⟨rfl, hd1, hb1⟩
    rw [hg] at hd1 ⊢
    have hgle : w.heap.size ≤ g := by omega
    clear hg
    have hsz1 := hb1.size
    have HB1 := hid hb1
    have CF := hid (codes_any g c 0 A L 16 (by omega) w1 hd1)
    clear hd1 hb1 cL CR
    go_wp2_with fail
    refine CF.out.mono ?_
    rintro e w2 ⟨v, l, rfl, hk, hrow, hce⟩
    obtain ⟨A2, c2, rfl, hc1, hc2, hin⟩ := hrow.strsIn
    have HB2 := hid (HB1.out.trans (hce.p.toBelow hsz1 hgle))
    have hin2 := hin.mono (P' := fun b => b < w2.heap.size) (fun b h => h.2)
    have cJ := cjoin_any A2 l c2 w2 hin2 hc1 hc2 (HE.out.below HB2.out)
    unfold JoinOut at cJ
    rw [if_pos hk, hk] at cJ
    have hjs := join_short l hk
    have cT := fun w => list_any (ba (joinM l)) hjs w
    rw [show lst (ba (joinM l)) = joinM l from rfl, list_join l hk] at cT
    generalize ba (joinM l) = T at cJ cT hjs
    have HIN2 := hid hin2
    have CJ := hid cJ
    have CT := hid cT
    have h64 := (check_valid hk).1
    clear cJ cT hin2 hin hrow hce CF HB1 hk
    go_wp2_with fail
    refine CJ.out.mono ?_
    rintro e w3 ⟨rfl, hb3⟩
    have HIN3 := hid (HIN2.out.kept (w' := w3) (fun b hb => hb3.block b hb))
    have HB3 := hid (HB2.out.trans (hb3.mono HB2.out.size))
    have hs23 := hb3.size
    clear hb3 HB2 HIN2 CJ
    go_wp2_with fail
    refine (CT.out w3 (HE.out.below HB3.out)).mono ?_
    rintro e w4 ⟨⟨v4, rfl, hrow4⟩, hb4⟩
    dsimp only at hrow4 ⊢
    obtain ⟨A4, c4, rfl, hd1, hd2, hin4⟩ := hrow4.strsIn
    have HIN4 := hid hin4
    have HIN24 := hid (HIN3.out.kept (w' := w4) (fun b hb => hb4.block b (Nat.lt_of_lt_of_le hb hs23)))
    have HB4 := hid (HB3.out.trans (hb4.mono HB3.out.size))
    have hs34 := hb4.size
    clear hb4 HB3 HIN3 hrow4 hin4 CT
    go_wp2_with fail
    refine (awake_any w4 (HE.out.below HB4.out)).mono ?_
    rintro e w5 ⟨rfl, hb5⟩
    have i2 := HIN24.out.kept (w' := w5) (fun b hb => hb5.block b (Nat.lt_of_lt_of_le hb (Nat.le_trans hs23 hs34)))
    have i4 := HIN4.out.kept (w' := w5) (fun b hb => hb5.block b hb.2)
    have cS := sameStrings_any A2 A4 l l c2 c4 _ _ w5 i2 i4 (by omega)
    rw [show decide (l = l) = true by simp] at cS
    have CS := hid cS
    have HB5 := hid (HB4.out.trans (hb5.mono HB4.out.size))
    clear cS i2 i4 hb5 HIN4 HIN24 HB4
    go_wp2_with fail
    refine CS.out.mono ?_
    rintro e w6 ⟨rfl, q, hq⟩
    have HB6 : Hid (Below w.heap.size w w6) := hid (by rw [hq]; exact below_drewN HB5.out q)
    clear hq HB5
    go_wp2
    go_ret
    exact ⟨rfl, HB6.out⟩
  · rw [decide_eq_false hl] at cL
    go_enter Tryz.func7, Tryz.ntmps7
    go_wp2_with fail
    refine (cL _).mono ?_
    rintro e w' ⟨rfl, rfl⟩
    go_wp2_with fail
    refine (awake_any w HE.out).mono ?_
    rintro e w5 ⟨rfl, hb5⟩
    have HB5 := hid hb5
    clear hb5
    go_wp2
    go_ret
    exact ⟨rfl, HB5.out⟩
end Go.Proofs.YtldnbneblpebiaaGreatDoor
