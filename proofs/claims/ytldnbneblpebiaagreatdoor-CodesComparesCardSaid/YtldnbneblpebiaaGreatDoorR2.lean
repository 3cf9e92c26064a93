/-
  Natural order: the reference's Compare. Conditions: the strings fit into memory.
-/
import Derived.Test.YtldnbneblpebiaaGreatDoorR1
set_option linter.unusedVariables false
namespace Go.Proofs.YtldnbneblpebiaaGreatDoor
open Go Go.Proofs Go.RowKit Go.Lib

theorem ex_trans {a b c : World} (h : ∃ q, b = a.drewN q) (k : ∃ q, c = b.drewN q) : ∃ q, c = a.drewN q := by
  obtain ⟨q, rfl⟩ := h
  obtain ⟨r, rfl⟩ := k
  exact ⟨q + r, by rw [World.drewN_drewN]⟩

set_option maxHeartbeats 8000000 in
set_option maxRecDepth 100000 in
theorem refCompare_any (a b : ByteArray) (ha : a.size ≤ 9223372036854775807) (hb : b.size ≤ 9223372036854775807) (w : World) :
    Calls Tryz.prog 13 #[.string a, .string b] w fun e w' => e = .returned (.int .i64 (cmpM (lst a) (lst b))) ∧ ∃ q, w' = w.drewN q := by
  rw [cmpM_or]
  obtain ⟨LX, hLX⟩ : ∃ x, lexC cmpE (elems (lst a)) (elems (lst b)) = x := ⟨_, rfl⟩
  have cS := order_any a b
  obtain ⟨y, hy⟩ : ∃ y, compareBytes (lst a) (lst b) = y := ⟨_, rfl⟩
  rw [hy] at cS ⊢
  rw [hLX]
  have HLX := hid hLX
  clear hLX hy
  go_enter Tryz.func13, Tryz.ntmps13
  go_wp2
  go_loopw [5, 6, 7, 8, 9, 10, 11, 12, 13] (fun xv yv _ _ _ _ _ _ _ wr => ∃ X Y : ByteArray, xv = .string X ∧ yv = .string Y ∧ X.size ≤ a.size ∧ Y.size ≤ b.size ∧ Hid (LX = lexC cmpE (elems (lst X)) (elems (lst Y))) ∧ Hid (∃ q, wr = w.drewN q)) (fun xv _ _ _ _ _ _ _ _ _ => strSize xv)
  case atStart => exact ⟨a, b, rfl, rfl, Nat.le_refl _, Nat.le_refl _, hid HLX.out.symm, hid ⟨0, rfl⟩⟩
  case round =>
    obtain ⟨X, Y, rfl, rfl, hXs, hYs, hE, hD⟩ := hrel
    by_cases hx : 0 < X.size
    · by_cases hy : 0 < Y.size
      · have CX := hid (fun w => element_any X hx (by omega) w)
        have CY := hid (fun w => element_any Y hy (by omega) w)
        have hst := hid (lex_step (lst X) (lst Y) (lst_ne hx) (lst_ne hy))
        have pX := elemN_pos _ (lst_ne hx)
        have pY := elemN_pos _ (lst_ne hy)
        have lX := elemN_le (lst X)
        have lY := elemN_le (lst Y)
        rw [show (lst X).length = X.size from (Lib.size_eq X).symm] at lX
        rw [show (lst Y).length = Y.size from (Lib.size_eq Y).symm] at lY
        obtain ⟨x1, x2, x3, _⟩ := str_no hx
        obtain ⟨y1, y2, y3, _⟩ := str_no hy
        go_wp2_with fail
        refine (CX.out _).mono ?_
        rintro e w1 ⟨⟨P, X', rfl, hP, hX'⟩, hq1⟩
        have sP : P.size = elemN (lst X) := by rw [Lib.size_eq, show P.data.toList = _ from hP, List.length_take, show (lst X).length = X.size from (Lib.size_eq X).symm]; omega
        have sX' : X'.size = X.size - elemN (lst X) := by rw [Lib.size_eq, show X'.data.toList = _ from hX', List.length_drop, show (lst X).length = X.size from (Lib.size_eq X).symm]
        have HP := hid hP
        have HX' := hid hX'
        have HD1 := hid (ex_trans hD.out hq1)
        have hP0 : 0 < P.size := by omega
        have hPs : P.size ≤ 9223372036854775807 := by omega
        have hXl : X'.size < X.size := by omega
        clear hP hX' hq1 hD x1 x2 x3 y1 y2 y3
        go_wp2_with fail
        refine (CY.out _).mono ?_
        rintro e w2 ⟨⟨Q, Y', rfl, hQ, hY'⟩, hq2⟩
        have sQ : Q.size = elemN (lst Y) := by rw [Lib.size_eq, show Q.data.toList = _ from hQ, List.length_take, show (lst Y).length = Y.size from (Lib.size_eq Y).symm]; omega
        have sY' : Y'.size = Y.size - elemN (lst Y) := by rw [Lib.size_eq, show Y'.data.toList = _ from hY', List.length_drop, show (lst Y).length = Y.size from (Lib.size_eq Y).symm]
        have HQ := hid hQ
        have HY' := hid hY'
        have HD2 := hid (ex_trans HD1.out hq2)
        have hQ0 : 0 < Q.size := by omega
        have hQs : Q.size ≤ 9223372036854775807 := by omega
        have hYl : Y'.size < Y.size := by omega
        clear hQ hY' hq2 sP sX' sQ sY' HD1 CX CY
        have hc : Hid (LX = if cmpE (lst P) (lst Q) = 0 then lexC cmpE (elems (lst X')) (elems (lst Y')) else cmpE (lst P) (lst Q)) := hid (by rw [hE.out, hst.out, HP.out, HQ.out, HX'.out, HY'.out])
        have na := numS_eq P hP0
        have nb := numS_eq Q hQ0
        have cA := digit_any (P[0]'hP0)
        have cB := digit_any (Q[0]'hQ0)
        obtain ⟨u, hu⟩ : ∃ x, P[0]'hP0 = x := ⟨_, rfl⟩
        obtain ⟨v, hv⟩ : ∃ x, Q[0]'hQ0 = x := ⟨_, rfl⟩
        rw [hu] at na cA
        rw [hv] at nb cB
        have eT := cmpE_texts (lst P) (lst Q)
        have eN := cmpE_nums' (lst P) (lst Q)
        have eX := cmpE_num (lst P) (lst Q)
        have eY := cmpE_other (lst P) (lst Q)
        obtain ⟨c, hcc⟩ : ∃ c, cmpE (lst P) (lst Q) = c := ⟨_, rfl⟩
        rw [hcc] at hc eT eN eX eY
        clear hcc
        rw [na, nb] at eT eN eX eY
        clear na nb hE hst
        cases hdx : dg u <;> cases hdy : dg v <;> rw [hdx] at cA eT eN eX eY <;> rw [hdy] at cB eT eN eX eY <;> clear hdx hdy
        · have hr := eT rfl rfl
          have cO := order_any P Q
          rw [← hr] at cO
          clear eT eN eX eY hr
          by_cases h0 : c = 0
          · have hz : ((c : Int) != 0) = false := by simp [h0]
            have hn : Hid (LX = lexC cmpE (elems (lst X')) (elems (lst Y'))) := hid (by rw [hc.out, if_pos h0])
            clear h0 hc
            go_wp2
            go_quiet ((first | (go_at_call_of 29 u.toNat; with_reducible refine Calls.quiet_of_same ((cA _).mono fun _ _ h => ⟨h.1, h.2.symm⟩)) | (go_at_call_of 29 v.toNat; with_reducible refine Calls.quiet_of_same ((cB _).mono fun _ _ h => ⟨h.1, h.2.symm⟩))))
            go_wp2_with fail
            refine (cO _).mono ?_
            rintro e w3 ⟨rfl, rfl⟩
            go_wp2
            go_roundw
            case rel => exact ⟨X', Y', rfl, rfl, by omega, by omega, hn, hid (ex_drew HD2.out _)⟩
            case measure => exact hXl
          · have hz : ((c : Int) != 0) = true := by simpa using h0
            have hn : Hid (orI LX y = c) := hid (by rw [hc.out, if_neg h0]; exact if_neg h0)
            clear h0 hc
            go_wp2
            go_quiet ((first | (go_at_call_of 29 u.toNat; with_reducible refine Calls.quiet_of_same ((cA _).mono fun _ _ h => ⟨h.1, h.2.symm⟩)) | (go_at_call_of 29 v.toNat; with_reducible refine Calls.quiet_of_same ((cB _).mono fun _ _ h => ⟨h.1, h.2.symm⟩))))
            go_wp2_with fail
            refine (cO _).mono ?_
            rintro e w3 ⟨rfl, rfl⟩
            go_wp2
            go_ret
            rw [hn.out]
            exact ⟨rfl, ex_drew HD2.out _⟩
        · have hr := eY rfl rfl
          have hn : Hid (orI LX y = 1) := hid (by rw [hc.out, hr]; rfl)
          clear eT eN eX eY hr hc
          go_wp2
          go_quiet ((first | (go_at_call_of 29 u.toNat; with_reducible refine Calls.quiet_of_same ((cA _).mono fun _ _ h => ⟨h.1, h.2.symm⟩)) | (go_at_call_of 29 v.toNat; with_reducible refine Calls.quiet_of_same ((cB _).mono fun _ _ h => ⟨h.1, h.2.symm⟩))))
          go_wp2
          go_ret
          rw [hn.out]
          exact ⟨rfl, ex_drew HD2.out _⟩
        · have hr := eX rfl rfl
          have hn : Hid (orI LX y = -1) := hid (by rw [hc.out, hr]; rfl)
          clear eT eN eX eY hr hc
          go_wp2
          go_quiet ((first | (go_at_call_of 29 u.toNat; with_reducible refine Calls.quiet_of_same ((cA _).mono fun _ _ h => ⟨h.1, h.2.symm⟩)) | (go_at_call_of 29 v.toNat; with_reducible refine Calls.quiet_of_same ((cB _).mono fun _ _ h => ⟨h.1, h.2.symm⟩))))
          go_wp2
          go_ret
          rw [hn.out]
          exact ⟨rfl, ex_drew HD2.out _⟩
        · have hr := hid (eN rfl rfl)
          clear eT eN eX eY
          go_wp2
          go_quiet ((first | (go_at_call_of 29 u.toNat; with_reducible refine Calls.quiet_of_same ((cA _).mono fun _ _ h => ⟨h.1, h.2.symm⟩)) | (go_at_call_of 29 v.toNat; with_reducible refine Calls.quiet_of_same ((cB _).mono fun _ _ h => ⟨h.1, h.2.symm⟩))))
          go_wp2_with fail
          refine (bare_any P hPs _).mono ?_
          rintro e w3 ⟨⟨U, rfl, hU, hUs⟩, rfl⟩
          have HU := hid hU
          clear hU
          go_wp2_with fail
          refine (bare_any Q hQs _).mono ?_
          rintro e w3 ⟨⟨V, rfl, hV, hVs⟩, rfl⟩
          have HV := hid hV
          clear hV
          have cO := order_any U V
          have hr2 : Hid (c = orI (cmpI (U.size : Int) (V.size : Int)) (compareBytes (lst U) (lst V))) := hid (by
            rw [hr.out, ← HU.out, ← HV.out, show (lst U).length = U.size from (Lib.size_eq U).symm, show (lst V).length = V.size from (Lib.size_eq V).symm])
          obtain ⟨o, ho⟩ : ∃ o, compareBytes (lst U) (lst V) = o := ⟨_, rfl⟩
          rw [ho] at cO hr2
          clear ho hr HU HV
          rcases Nat.lt_trichotomy U.size V.size with hl | hl | hl
          · have l1 : (U.size : Int) < (V.size : Int) := by omega
            have l2 : ¬ (V.size : Int) < (U.size : Int) := by omega
            have hn : Hid (orI LX y = -1) := hid (by rw [hc.out, hr2.out]; unfold cmpI; rw [if_pos l1]; rfl)
            clear hr2 hc hl
            go_wp2_with fail
            refine (cO _).mono ?_
            rintro e w3 ⟨rfl, rfl⟩
            go_wp2
            go_ret
            rw [hn.out]
            exact ⟨rfl, ex_drew HD2.out _⟩
          · have l1 : ¬ (U.size : Int) < (V.size : Int) := by omega
            have l2 : ¬ (V.size : Int) < (U.size : Int) := by omega
            have hco : Hid (c = o) := hid (by rw [hr2.out]; unfold cmpI; rw [if_neg l1, if_neg l2]; rfl)
            clear hr2 hl
            by_cases h0 : o = 0
            · have hz : ((o : Int) != 0) = false := by simp [h0]
              have hn : Hid (LX = lexC cmpE (elems (lst X')) (elems (lst Y'))) := hid (by rw [hc.out, hco.out, if_pos h0])
              clear h0 hc hco
              go_wp2_with fail
              refine (cO _).mono ?_
              rintro e w3 ⟨rfl, rfl⟩
              go_wp2
              go_roundw
              case rel => exact ⟨X', Y', rfl, rfl, by omega, by omega, hn, hid (ex_drew HD2.out _)⟩
              case measure => exact hXl
            · have hz : ((o : Int) != 0) = true := by simpa using h0
              have hn : Hid (orI LX y = o) := hid (by rw [hc.out, hco.out, if_neg h0]; exact if_neg h0)
              clear h0 hc hco
              go_wp2_with fail
              refine (cO _).mono ?_
              rintro e w3 ⟨rfl, rfl⟩
              go_wp2
              go_ret
              rw [hn.out]
              exact ⟨rfl, ex_drew HD2.out _⟩
          · have l1 : ¬ (U.size : Int) < (V.size : Int) := by omega
            have l2 : (V.size : Int) < (U.size : Int) := by omega
            have hn : Hid (orI LX y = 1) := hid (by rw [hc.out, hr2.out]; unfold cmpI; rw [if_neg l1, if_pos l2]; rfl)
            clear hr2 hc hl
            go_wp2_with fail
            refine (cO _).mono ?_
            rintro e w3 ⟨rfl, rfl⟩
            go_wp2
            go_ret
            rw [hn.out]
            exact ⟨rfl, ex_drew HD2.out _⟩
      · have hl := lex_end X Y (.inr hy)
        obtain ⟨x1, x2, x3, x4⟩ := str_no hx
        obtain ⟨y1, y2, y3, y4⟩ := str_yes hy
        have hn : Hid (orI LX y = 1) := hid (by rw [hE.out, hl]; unfold cmpI; rw [if_neg (by omega), if_pos (by omega)]; rfl)
        clear hl hE
        go_wp2
        go_ret
        rw [hn.out]
        exact ⟨rfl, hD.out⟩
    · have hl := lex_end X Y (.inl hx)
      obtain ⟨x1, x2, x3, x4⟩ := str_yes hx
      by_cases hy : 0 < Y.size
      · obtain ⟨y1, y2, y3, y4⟩ := str_no hy
        have hn : Hid (orI LX y = -1) := hid (by rw [hE.out, hl]; unfold cmpI; rw [if_pos (by omega)]; rfl)
        clear hl hE
        go_wp2
        go_ret
        rw [hn.out]
        exact ⟨rfl, hD.out⟩
      · obtain ⟨y1, y2, y3, y4⟩ := str_yes hy
        have hn : Hid (orI LX y = y) := hid (by rw [hE.out, hl]; unfold cmpI; rw [if_neg (by omega), if_neg (by omega)]; rfl)
        clear hl hE
        go_wp2_with fail
        refine (cS _).mono ?_
        rintro e w3 ⟨rfl, rfl⟩
        go_wp2
        go_ret
        rw [hn.out]
        exact ⟨rfl, hD.out⟩
end Go.Proofs.YtldnbneblpebiaaGreatDoor
