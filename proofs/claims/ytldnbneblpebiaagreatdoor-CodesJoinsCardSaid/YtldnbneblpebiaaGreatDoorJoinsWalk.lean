/-
  The walk of CodesJoins: the program's Join and the reference's, at raw strings and at made codes. Conditions: the library's variables hold what its text lays; the lists lie in memory.
-/
import Derived.Test.YtldnbneblpebiaaGreatDoorReturnsWalk
import Derived.Test.YtldnbneblpebiaaGreatDoorRJoin
set_option linter.unusedVariables false
namespace Go.Proofs.YtldnbneblpebiaaGreatDoor
open Go Go.Proofs Go.RowKit Go.Lib

set_option maxHeartbeats 8000000 in
set_option maxRecDepth 100000 in
theorem joins_any (AS : Option Addr) (S : List Str) (cS : Nat) (A : Option Addr) (L : List Int) (c : Nat) (w : World) (hS : StrsIn w (fun b => b < w.heap.size) AS S) (hS1 : S.length ≤ cS) (hS2 : cS ≤ 9223372036854775807) (hI : IntsIn w w.heap.size A L) (hE : Env w) :
    Calls Tryz.prog 6 #[.slice AS S.length cS, .slice A L.length c] w fun e w' => e = .returned (.bool true) ∧ Below w.heap.size w w' := by
  have cL := light_any A L.length c
  have HE := hid hE
  have HS := hid hS
  clear hE hS
  by_cases hl : L.length ≤ 400
  · rw [decide_eq_true hl] at cL
    have cR := roll_any A L c hl w hI
    obtain ⟨g, hg⟩ : ∃ g, w.heap.size = g := ⟨_, rfl⟩
    have CR := hid cR
    have hSX : ∀ wx, Below w.heap.size w wx → StrsIn wx (fun b => b < wx.heap.size) AS S := fun wx hb => (HS.out.kept (w' := wx) (fun b h => hb.block b h)).mono (fun b h => Nat.lt_of_lt_of_le h hb.size)
    have HSX := hid hSX
    obtain ⟨X, hX⟩ : ∃ X, ba (if checkM S = 0 then joinM S else []) = X := ⟨_, rfl⟩
    obtain ⟨x, hx⟩ : ∃ x, checkM S = x := ⟨_, rfl⟩
    have cA : ∀ wx, Below w.heap.size w wx → Calls Tryz.prog 23 #[.slice AS S.length cS] wx fun e w' => e = .returned (.tuple #[.string X, .int .i64 x]) ∧ Below wx.heap.size wx w' := fun wx hb => by
      have h := cjoin_any AS S cS wx (HSX.out wx hb) hS1 hS2 (HE.out.below hb)
      unfold JoinOut at h
      rw [hX, hx] at h
      exact h
    have cB : ∀ wx, Below w.heap.size w wx → Calls Tryz.prog 16 #[.slice AS S.length cS] wx fun e w' => e = .returned (.tuple #[.string X, .int .i64 x]) ∧ Below wx.heap.size wx w' := fun wx hb => by
      have h := rjoin_any AS S cS wx (HSX.out wx hb) hS1 hS2
      unfold JoinOut at h
      rw [hX, hx] at h
      exact h
    have CA := hid cA
    have CB := hid cB
    have t1 : (X.toList == X.toList) = true := by simp
    have t2 : (x == x) = true := by simp
    clear cR hI hSX cA cB hX hx
    go_enter Tryz.func6, Tryz.ntmps6
    go_wp2_with fail
    refine (cL _).mono ?_
    rintro e w' ⟨rfl, rfl⟩
    go_wp2_with fail
    refine CR.out.mono ?_
    rintro e w1 ⟨rfl, hd1, hb1⟩
    rw [hg] at hd1 ⊢
    have hgle : w.heap.size ≤ g := by omega
    clear hg
    have hsz1 := hb1.size
    have HB1 := hid hb1
    have CF := hid (codes_any g c 0 A L 14 (by omega) w1 hd1)
    clear hd1 hb1 cL CR
    go_wp2_with fail
    refine CF.out.mono ?_
    rintro e w2 ⟨v, l, rfl, hk, hrow, hce⟩
    obtain ⟨A2, c2, rfl, hc1, hc2, hin⟩ := hrow.strsIn
    have HB2 := hid (HB1.out.trans (hce.p.toBelow hsz1 hgle))
    have hin2 := hin.mono (P' := fun b => b < w2.heap.size) (fun b h => h.2)
    have HIN2 := hid hin2
    obtain ⟨Y, hY⟩ : ∃ Y, ba (if checkM l = 0 then joinM l else []) = Y := ⟨_, rfl⟩
    obtain ⟨y, hy⟩ : ∃ y, checkM l = y := ⟨_, rfl⟩
    have hLX : ∀ wx, Below w2.heap.size w2 wx → StrsIn wx (fun b => b < wx.heap.size) A2 l := fun wx hb => (HIN2.out.kept (w' := wx) (fun b h => hb.block b h)).mono (fun b h => Nat.lt_of_lt_of_le h hb.size)
    have HLX := hid hLX
    have hc0 : ∀ wx, Below w2.heap.size w2 wx → Below w.heap.size w wx := fun wx hb => HB2.out.trans (hb.mono HB2.out.size)
    have HC0 := hid hc0
    have cC : ∀ wx, Below w2.heap.size w2 wx → Calls Tryz.prog 23 #[.slice A2 l.length c2] wx fun e w' => e = .returned (.tuple #[.string Y, .int .i64 y]) ∧ Below wx.heap.size wx w' := fun wx hb => by
      have h := cjoin_any A2 l c2 wx (HLX.out wx hb) hc1 hc2 (HE.out.below (HC0.out wx hb))
      unfold JoinOut at h
      rw [hY, hy] at h
      exact h
    have cD : ∀ wx, Below w2.heap.size w2 wx → Calls Tryz.prog 16 #[.slice A2 l.length c2] wx fun e w' => e = .returned (.tuple #[.string Y, .int .i64 y]) ∧ Below wx.heap.size wx w' := fun wx hb => by
      have h := rjoin_any A2 l c2 wx (HLX.out wx hb) hc1 hc2
      unfold JoinOut at h
      rw [hY, hy] at h
      exact h
    have CC := hid cC
    have CD := hid cD
    have t3 : (Y.toList == Y.toList) = true := by simp
    have t4 : (y == y) = true := by simp
    clear hin hin2 hrow hce hk CF HB1 hLX hc0 cC cD hY hy
    go_wp2_with fail
    refine (CA.out _ HB2.out).mono ?_
    rintro e w3 ⟨rfl, hb3⟩
    have HB3 := hid hb3
    clear hb3
    go_wp2_with fail
    refine (CB.out _ (HC0.out _ HB3.out)).mono ?_
    rintro e w4 ⟨rfl, hb4⟩
    have HB4 := hid (HB3.out.trans (hb4.mono HB3.out.size))
    clear hb4
    go_wp2_with fail
    refine (CC.out _ HB4.out).mono ?_
    rintro e w5 ⟨rfl, hb5⟩
    have HB5 := hid (HB4.out.trans (hb5.mono HB4.out.size))
    clear hb5
    go_wp2_with fail
    refine (CD.out _ HB5.out).mono ?_
    rintro e w6 ⟨rfl, hb6⟩
    have HB6 := hid (HB5.out.trans (hb6.mono HB5.out.size))
    clear hb6
    go_wp2_with fail
    refine (awake_any w6 (HE.out.below (HC0.out _ HB6.out))).mono ?_
    rintro e w7 ⟨rfl, hb7⟩
    have HB7 := hid (HC0.out _ (HB6.out.trans (hb7.mono HB6.out.size)))
    clear hb7
    go_wp2
    go_ret
    exact ⟨rfl, HB7.out⟩
  · rw [decide_eq_false hl] at cL
    clear hI
    go_enter Tryz.func6, Tryz.ntmps6
    go_wp2_with fail
    refine (cL _).mono ?_
    rintro e w' ⟨rfl, rfl⟩
    go_wp2_with fail
    refine (awake_any _ HE.out).mono ?_
    rintro e w1 ⟨rfl, hb1⟩
    have HB1 := hid hb1
    clear hb1
    go_wp2
    go_ret
    exact ⟨rfl, HB1.out⟩
end Go.Proofs.YtldnbneblpebiaaGreatDoor
