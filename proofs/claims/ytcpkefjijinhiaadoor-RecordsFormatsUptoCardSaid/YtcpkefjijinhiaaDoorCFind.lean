/-
  The code's reader of layer 2: where the next record begins. Conditions: the reader lies in memory; its text has at most 65536 bytes.
-/
import Derived.Test.YtcpkefjijinhiaaDoorCPlain
set_option linter.unusedVariables false
namespace Go.Proofs.YtcpkefjijinhiaaDoor
open Go Go.Proofs Go.RowKit Go.Lib

set_option maxHeartbeats 4000000 in
set_option maxRecDepth 100000 in
theorem find_any (g a : Nat) (S : ByteArray) (D Q : UInt8) (pv : Value) (w : World) (h : CRd w g S D Q a pv) (hbeg : a < S.size → begOf (lst S) a = a) :
    Calls Tryd.prog 40 #[.pointer (some ⟨g, 0, none⟩)] w fun e w' => Rolled g w w' ∧ ∃ (f : Bool) (a' : Nat), e = .returned (.bool f) ∧ CRd w' g S D Q a' pv ∧
      (∀ out bad, parseR (lst S) D Q a out bad = parseR (lst S) D Q a' out bad) ∧
      (f = true → a' < S.size ∧ ¬ (endL ((lst S).drop a') = true ∨ ((lst S).drop a').head? = some 35)) ∧ (f = false → S.size ≤ a') ∧ (a' < S.size → begOf (lst S) a' = a') ∧ a ≤ a' := by
  have H := hid h
  have HBEG := hid hbeg
  clear h hbeg
  go_enter Tryd.func40, Tryd.ntmps40
  go_wp2_with fail
  go_loopg [2] (S.size + 1) (fun gk s2 wx => s2 = .bool false ∧ ∃ a' : Nat, CRd wx g S D Q a' pv ∧ Hid (∀ out bad, parseR (lst S) D Q a out bad = parseR (lst S) D Q a' out bad) ∧ Rolled g w wx ∧ Hid (a' < S.size → begOf (lst S) a' = a') ∧ a ≤ a' ∧ S.size - a' < gk)
  case atStart => exact ⟨rfl, a, H.out, hid (fun _ _ => rfl), Rolled.refl _ _, HBEG, Nat.le_refl _, by omega⟩
  case round =>
    obtain ⟨rfl, a', hC, hE, hRo, hbg, haa, hgk⟩ := hrel
    obtain ⟨g', rfl⟩ : ∃ g', gk = g' + 1 := ⟨gk - 1, by omega⟩
    have hle := hC.le
    have cA := rest_any g a' S D Q pv wr hC
    have cR := fun n => restOfLine_any g a' S D Q pv (wr.drewN n) (hC.drawn n)
    have cP := fun w => prefix_one (lineS ((lst S).drop a')) 35 w
    have cS := fun n => skip_any g a' S D Q pv (wr.drewN n) (hC.drawn n)
    have hnil := lineS_nil_iff ((lst S).drop a')
    have hhd := lineS_head ((lst S).drop a') D
    have HC := hid hC
    have HRo := hid hRo
    have CS := hid cS
    clear hC hRo H cS
    by_cases hend : a' = S.size
    · have hd : (lst S).drop a' = [] := List.drop_of_length_le (by rw [← Lib.size_eq]; omega)
      rw [hd] at cA
      clear cR cP hnil hhd CS hd
      unfold strV at cA
      go_wp2_with fail
      refine cA.mono ?_
      rintro e w1 ⟨rfl, q, rfl⟩
      go_wp2
      go_ret
      exact ⟨HRo.out.trans (Rolled.drawn g wr q), false, a', rfl, HC.out.drawn q, hE.out, fun h => by simp at h, fun _ => by omega, hbg.out, haa⟩
    · have hlt : a' < S.size := by omega
      have hltL : a' < (lst S).length := by rw [← Lib.size_eq]; exact hlt
      have hd : (lst S).drop a' ≠ [] := by
        intro e
        have := congrArg List.length e
        rw [List.length_drop] at this
        simp at this
        omega
      have hm1 := str_ne _ hd
      have hm2 := str_ne2 _ hd
      have hm3 := str_ne3 _ hd
      have hgt := nxt_gt (lst S) a' hltL
      have hskip := fun out bad => parseR_skip (lst S) D Q a' out bad hltL
      clear hd
      generalize hsE : (lst S).drop a' = s at cA cR cP hnil hhd hm1 hm2 hm3 hskip
      have HSE := hid hsE
      clear hsE
      by_cases he : endL s = true
      · have hl := hnil.2 he
        rw [hl] at cR
        have hE2 : Hid (∀ out bad, parseR (lst S) D Q a out bad = parseR (lst S) D Q (nxt (lst S) a') out bad) := hid fun out bad => (hE.out out bad).trans (hskip out bad (.inl he))
        clear cP hnil hhd hl hE hskip he
        unfold strV at cR cA
        generalize (⟨s.toArray⟩ : ByteArray) = T at *
        go_wp2_with fail
        refine cA.mono ?_
        rintro e w1 ⟨rfl, q, rfl⟩
        go_wp2_with fail
        refine (cR _).mono ?_
        rintro e w1 ⟨rfl, q2, rfl⟩
        go_wp2_with fail
        refine (CS.out _).mono ?_
        rintro e w2 ⟨rfl, hC2, hR2⟩
        go_wp2
        go_roundg g'
        case measure => omega
        case rel => exact ⟨rfl, nxt (lst S) a', hC2, hE2, HRo.out.trans ((Rolled.drawn g wr _).trans hR2), hid (fun h => begOf_nxt _ _ (by rw [← Lib.size_eq]; exact h)), by omega, by omega⟩
      · have hl : lineS s ≠ [] := fun e => he (hnil.1 e)
        have hhd' := hhd hl
        rw [hhd'] at cP
        have hk1 := str_ne _ hl
        have hk2 := str_ne2 _ hl
        have hk3 := str_ne3 _ hl
        by_cases hh : s.head? = some 35
        · have hb : (s.head? == some 35) = true := by simpa using hh
          rw [hb] at cP
          have hE2 : Hid (∀ out bad, parseR (lst S) D Q a out bad = parseR (lst S) D Q (nxt (lst S) a') out bad) := hid fun out bad => (hE.out out bad).trans (hskip out bad (.inr hh))
          clear hnil hhd hl hE hskip he hhd' hb hh
          unfold strV at cR cA cP
          generalize (⟨s.toArray⟩ : ByteArray) = T at *
          generalize (⟨(lineS s).toArray⟩ : ByteArray) = T2 at *
          go_wp2_with fail
          refine cA.mono ?_
          rintro e w1 ⟨rfl, q, rfl⟩
          go_wp2_with fail
          refine (cR _).mono ?_
          rintro e w1 ⟨rfl, q2, rfl⟩
          go_wp2_with fail
          refine (cP _).mono ?_
          rintro e w1 ⟨rfl, rfl⟩
          go_wp2_with fail
          refine (CS.out _).mono ?_
          rintro e w2 ⟨rfl, hC2, hR2⟩
          go_wp2
          go_roundg g'
          case measure => omega
          case rel => exact ⟨rfl, nxt (lst S) a', hC2, hE2, HRo.out.trans ((Rolled.drawn g wr _).trans hR2), hid (fun h => begOf_nxt _ _ (by rw [← Lib.size_eq]; exact h)), by omega, by omega⟩
        · have hb : (s.head? == some 35) = false := by simpa using hh
          rw [hb] at cP
          have HN : Hid (¬ (endL s = true ∨ s.head? = some 35)) := hid (by rintro (h | h); exact he h; exact hh h)
          clear hnil hhd hl hskip he hhd' hb hh
          unfold strV at cR cA cP
          generalize (⟨s.toArray⟩ : ByteArray) = T at *
          generalize (⟨(lineS s).toArray⟩ : ByteArray) = T2 at *
          go_wp2_with fail
          refine cA.mono ?_
          rintro e w1 ⟨rfl, q, rfl⟩
          go_wp2_with fail
          refine (cR _).mono ?_
          rintro e w1 ⟨rfl, q2, rfl⟩
          go_wp2_with fail
          refine (cP _).mono ?_
          rintro e w1 ⟨rfl, rfl⟩
          go_wp2
          go_ret
          refine ⟨HRo.out.trans (Rolled.drawn g wr _), true, a', rfl, HC.out.drawn _, hE.out, fun _ => ⟨hlt, ?_⟩, fun h => by simp at h, hbg.out, haa⟩
          rw [HSE.out]
          exact HN.out
end Go.Proofs.YtcpkefjijinhiaaDoor
