/-
  Natural order: the reference's Compare. Conditions: the strings fit into memory. Students of the specification: the students in natural order. Conditions: the .. Conditions: as stated.
-/
import Derived.Test.YtlgmanbilaminaaGreatDoorMN15
import Derived.Test.YtlgmanbilaminaaGreatDoorMN16
import Derived.Deep.RegionLawGrows
set_option linter.unusedVariables false
namespace Go.Proofs.YtlgmanbilaminaaGreatDoor.S3
open Go Go.Proofs Go.RowKit Go.Lib Go.Proofs.YtlgmanbilaminaaGreatDoor
theorem ex_trans {a b c : World} (h : ∃ q, b = a.drewN q) (k : ∃ q, c = b.drewN q) : ∃ q, c = a.drewN q := by
  obtain ⟨q, rfl⟩ := h
  obtain ⟨r, rfl⟩ := k
  exact ⟨q + r, by rw [World.drewN_drewN]⟩
set_option maxHeartbeats 8000000 in
set_option maxRecDepth 100000 in
theorem refCompare_any (a b : ByteArray) (ha : a.size ≤ 9223372036854775807) (hb : b.size ≤ 9223372036854775807) (w : World) :
    Calls Tryz.prog 32 #[.string a, .string b] w fun e w' => e = .returned (.int .i64 (cmpM (lst a) (lst b))) ∧ ∃ q, w' = w.drewN q := by
  rw [cmpM_or]
  obtain ⟨LX, hLX⟩ : ∃ x, lexC cmpE (elems (lst a)) (elems (lst b)) = x := ⟨_, rfl⟩
  have cS := order_any a b
  obtain ⟨y, hy⟩ : ∃ y, compareBytes (lst a) (lst b) = y := ⟨_, rfl⟩
  rw [hy] at cS ⊢
  rw [hLX]
  have HLX := hid hLX
  clear hLX hy
  go_enter Tryz.func32, Tryz.ntmps32
  go_wp2
  go_loopw [5, 6, 7, 8, 9, 10, 11, 12, 13] (fun xv yv _ _ _ _ _ _ _ wr => ∃ X Y : ByteArray, xv = .string X ∧ yv = .string Y ∧ X.size ≤ a.size ∧ Y.size ≤ b.size ∧ Hid (LX = lexC cmpE (elems (lst X)) (elems (lst Y))) ∧ Hid (∃ q, wr = w.drewN q)) (fun xv _ _ _ _ _ _ _ _ _ => strSize xv)
  case atStart => exact ⟨a, b, rfl, rfl, Nat.le_refl _, Nat.le_refl _, hid HLX.out.symm, hid ⟨0, rfl⟩⟩
  case round =>
    obtain ⟨X, Y, rfl, rfl, hXs, hYs, hE, hD⟩ := hrel
    by_cases hx : 0 < X.size
    · by_cases hy : 0 < Y.size
      · have CX := hid (fun w => element_any X hx (by omega) w)
        have CY := hid (fun w => element_any Y hy (by omega) w)
        have hst := hid (lex_step (lst X) (lst Y) (lst_ne hx) (lst_ne hy))
        have pX := elemN_pos _ (lst_ne hx)
        have pY := elemN_pos _ (lst_ne hy)
        have lX := elemN_le (lst X)
        have lY := elemN_le (lst Y)
        rw [show (lst X).length = X.size from (Lib.size_eq X).symm] at lX
        rw [show (lst Y).length = Y.size from (Lib.size_eq Y).symm] at lY
        obtain ⟨x1, x2, x3, _⟩ := str_no hx
        obtain ⟨y1, y2, y3, _⟩ := str_no hy
        go_wp2_with fail
        refine (CX.out _).mono ?_
        rintro e w1 ⟨⟨P, X', rfl, hP, hX'⟩, hq1⟩
        have sP : P.size = elemN (lst X) := by rw [Lib.size_eq, show P.data.toList = _ from hP, List.length_take, show (lst X).length = X.size from (Lib.size_eq X).symm]; omega
        have sX' : X'.size = X.size - elemN (lst X) := by rw [Lib.size_eq, show X'.data.toList = _ from hX', List.length_drop, show (lst X).length = X.size from (Lib.size_eq X).symm]
        have HP := hid hP
        have HX' := hid hX'
        have HD1 := hid (ex_trans hD.out hq1)
        have hP0 : 0 < P.size := by omega
        have hPs : P.size ≤ 9223372036854775807 := by omega
        have hXl : X'.size < X.size := by omega
        clear hP hX' hq1 hD x1 x2 x3 y1 y2 y3
        go_wp2_with fail
        refine (CY.out _).mono ?_
        rintro e w2 ⟨⟨Q, Y', rfl, hQ, hY'⟩, hq2⟩
        have sQ : Q.size = elemN (lst Y) := by rw [Lib.size_eq, show Q.data.toList = _ from hQ, List.length_take, show (lst Y).length = Y.size from (Lib.size_eq Y).symm]; omega
        have sY' : Y'.size = Y.size - elemN (lst Y) := by rw [Lib.size_eq, show Y'.data.toList = _ from hY', List.length_drop, show (lst Y).length = Y.size from (Lib.size_eq Y).symm]
        have HQ := hid hQ
        have HY' := hid hY'
        have HD2 := hid (ex_trans HD1.out hq2)
        have hQ0 : 0 < Q.size := by omega
        have hQs : Q.size ≤ 9223372036854775807 := by omega
        have hYl : Y'.size < Y.size := by omega
        clear hQ hY' hq2 sP sX' sQ sY' HD1 CX CY
        have hc : Hid (LX = if cmpE (lst P) (lst Q) = 0 then lexC cmpE (elems (lst X')) (elems (lst Y')) else cmpE (lst P) (lst Q)) := hid (by rw [hE.out, hst.out, HP.out, HQ.out, HX'.out, HY'.out])
        have na := numS_eq P hP0
        have nb := numS_eq Q hQ0
        have cA := digit_any (P[0]'hP0)
        have cB := digit_any (Q[0]'hQ0)
        obtain ⟨u, hu⟩ : ∃ x, P[0]'hP0 = x := ⟨_, rfl⟩
        obtain ⟨v, hv⟩ : ∃ x, Q[0]'hQ0 = x := ⟨_, rfl⟩
        rw [hu] at na cA
        rw [hv] at nb cB
        have eT := cmpE_texts (lst P) (lst Q)
        have eN := cmpE_nums' (lst P) (lst Q)
        have eX := cmpE_num (lst P) (lst Q)
        have eY := cmpE_other (lst P) (lst Q)
        obtain ⟨c, hcc⟩ : ∃ c, cmpE (lst P) (lst Q) = c := ⟨_, rfl⟩
        rw [hcc] at hc eT eN eX eY
        clear hcc
        rw [na, nb] at eT eN eX eY
        clear na nb hE hst
        cases hdx : dg u <;> cases hdy : dg v <;> rw [hdx] at cA eT eN eX eY <;> rw [hdy] at cB eT eN eX eY <;> clear hdx hdy
        · have hr := eT rfl rfl
          have cO := order_any P Q
          rw [← hr] at cO
          clear eT eN eX eY hr
          by_cases h0 : c = 0
          · have hz : ((c : Int) != 0) = false := by simp [h0]
            have hn : Hid (LX = lexC cmpE (elems (lst X')) (elems (lst Y'))) := hid (by rw [hc.out, if_pos h0])
            clear h0 hc
            go_wp2
            go_quiet ((first | (go_at_call_of 56 u.toNat; with_reducible refine Calls.quiet_of_same ((cA _).mono fun _ _ h => ⟨h.1, h.2.symm⟩)) | (go_at_call_of 56 v.toNat; with_reducible refine Calls.quiet_of_same ((cB _).mono fun _ _ h => ⟨h.1, h.2.symm⟩))))
            go_wp2_with fail
            refine (cO _).mono ?_
            rintro e w3 ⟨rfl, rfl⟩
            go_wp2
            go_roundw
            case rel => exact ⟨X', Y', rfl, rfl, by omega, by omega, hn, hid (ex_drew HD2.out _)⟩
            case measure => exact hXl
          · have hz : ((c : Int) != 0) = true := by simpa using h0
            have hn : Hid (orI LX y = c) := hid (by rw [hc.out, if_neg h0]; exact if_neg h0)
            clear h0 hc
            go_wp2
            go_quiet ((first | (go_at_call_of 56 u.toNat; with_reducible refine Calls.quiet_of_same ((cA _).mono fun _ _ h => ⟨h.1, h.2.symm⟩)) | (go_at_call_of 56 v.toNat; with_reducible refine Calls.quiet_of_same ((cB _).mono fun _ _ h => ⟨h.1, h.2.symm⟩))))
            go_wp2_with fail
            refine (cO _).mono ?_
            rintro e w3 ⟨rfl, rfl⟩
            go_wp2
            go_ret
            rw [hn.out]
            exact ⟨rfl, ex_drew HD2.out _⟩
        · have hr := eY rfl rfl
          have hn : Hid (orI LX y = 1) := hid (by rw [hc.out, hr]; rfl)
          clear eT eN eX eY hr hc
          go_wp2
          go_quiet ((first | (go_at_call_of 56 u.toNat; with_reducible refine Calls.quiet_of_same ((cA _).mono fun _ _ h => ⟨h.1, h.2.symm⟩)) | (go_at_call_of 56 v.toNat; with_reducible refine Calls.quiet_of_same ((cB _).mono fun _ _ h => ⟨h.1, h.2.symm⟩))))
          go_wp2
          go_ret
          rw [hn.out]
          exact ⟨rfl, ex_drew HD2.out _⟩
        · have hr := eX rfl rfl
          have hn : Hid (orI LX y = -1) := hid (by rw [hc.out, hr]; rfl)
          clear eT eN eX eY hr hc
          go_wp2
          go_quiet ((first | (go_at_call_of 56 u.toNat; with_reducible refine Calls.quiet_of_same ((cA _).mono fun _ _ h => ⟨h.1, h.2.symm⟩)) | (go_at_call_of 56 v.toNat; with_reducible refine Calls.quiet_of_same ((cB _).mono fun _ _ h => ⟨h.1, h.2.symm⟩))))
          go_wp2
          go_ret
          rw [hn.out]
          exact ⟨rfl, ex_drew HD2.out _⟩
        · have hr := hid (eN rfl rfl)
          clear eT eN eX eY
          go_wp2
          go_quiet ((first | (go_at_call_of 56 u.toNat; with_reducible refine Calls.quiet_of_same ((cA _).mono fun _ _ h => ⟨h.1, h.2.symm⟩)) | (go_at_call_of 56 v.toNat; with_reducible refine Calls.quiet_of_same ((cB _).mono fun _ _ h => ⟨h.1, h.2.symm⟩))))
          go_wp2_with fail
          refine (bare_any P hPs _).mono ?_
          rintro e w3 ⟨⟨U, rfl, hU, hUs⟩, rfl⟩
          have HU := hid hU
          clear hU
          go_wp2_with fail
          refine (bare_any Q hQs _).mono ?_
          rintro e w3 ⟨⟨V, rfl, hV, hVs⟩, rfl⟩
          have HV := hid hV
          clear hV
          have cO := order_any U V
          have hr2 : Hid (c = orI (cmpI (U.size : Int) (V.size : Int)) (compareBytes (lst U) (lst V))) := hid (by
            rw [hr.out, ← HU.out, ← HV.out, show (lst U).length = U.size from (Lib.size_eq U).symm, show (lst V).length = V.size from (Lib.size_eq V).symm])
          obtain ⟨o, ho⟩ : ∃ o, compareBytes (lst U) (lst V) = o := ⟨_, rfl⟩
          rw [ho] at cO hr2
          clear ho hr HU HV
          rcases Nat.lt_trichotomy U.size V.size with hl | hl | hl
          · have l1 : (U.size : Int) < (V.size : Int) := by omega
            have l2 : ¬ (V.size : Int) < (U.size : Int) := by omega
            have hn : Hid (orI LX y = -1) := hid (by rw [hc.out, hr2.out]; unfold cmpI; rw [if_pos l1]; rfl)
            clear hr2 hc hl
            go_wp2_with fail
            refine (cO _).mono ?_
            rintro e w3 ⟨rfl, rfl⟩
            go_wp2
            go_ret
            rw [hn.out]
            exact ⟨rfl, ex_drew HD2.out _⟩
          · have l1 : ¬ (U.size : Int) < (V.size : Int) := by omega
            have l2 : ¬ (V.size : Int) < (U.size : Int) := by omega
            have hco : Hid (c = o) := hid (by rw [hr2.out]; unfold cmpI; rw [if_neg l1, if_neg l2]; rfl)
            clear hr2 hl
            by_cases h0 : o = 0
            · have hz : ((o : Int) != 0) = false := by simp [h0]
              have hn : Hid (LX = lexC cmpE (elems (lst X')) (elems (lst Y'))) := hid (by rw [hc.out, hco.out, if_pos h0])
              clear h0 hc hco
              go_wp2_with fail
              refine (cO _).mono ?_
              rintro e w3 ⟨rfl, rfl⟩
              go_wp2
              go_roundw
              case rel => exact ⟨X', Y', rfl, rfl, by omega, by omega, hn, hid (ex_drew HD2.out _)⟩
              case measure => exact hXl
            · have hz : ((o : Int) != 0) = true := by simpa using h0
              have hn : Hid (orI LX y = o) := hid (by rw [hc.out, hco.out, if_neg h0]; exact if_neg h0)
              clear h0 hc hco
              go_wp2_with fail
              refine (cO _).mono ?_
              rintro e w3 ⟨rfl, rfl⟩
              go_wp2
              go_ret
              rw [hn.out]
              exact ⟨rfl, ex_drew HD2.out _⟩
          · have l1 : ¬ (U.size : Int) < (V.size : Int) := by omega
            have l2 : (V.size : Int) < (U.size : Int) := by omega
            have hn : Hid (orI LX y = 1) := hid (by rw [hc.out, hr2.out]; unfold cmpI; rw [if_neg l1, if_pos l2]; rfl)
            clear hr2 hc hl
            go_wp2_with fail
            refine (cO _).mono ?_
            rintro e w3 ⟨rfl, rfl⟩
            go_wp2
            go_ret
            rw [hn.out]
            exact ⟨rfl, ex_drew HD2.out _⟩
      · have hl := lex_end X Y (.inr hy)
        obtain ⟨x1, x2, x3, x4⟩ := str_no hx
        obtain ⟨y1, y2, y3, y4⟩ := str_yes hy
        have hn : Hid (orI LX y = 1) := hid (by rw [hE.out, hl]; unfold cmpI; rw [if_neg (by omega), if_pos (by omega)]; rfl)
        clear hl hE
        go_wp2
        go_ret
        rw [hn.out]
        exact ⟨rfl, hD.out⟩
    · have hl := lex_end X Y (.inl hx)
      obtain ⟨x1, x2, x3, x4⟩ := str_yes hx
      by_cases hy : 0 < Y.size
      · obtain ⟨y1, y2, y3, y4⟩ := str_no hy
        have hn : Hid (orI LX y = -1) := hid (by rw [hE.out, hl]; unfold cmpI; rw [if_pos (by omega)]; rfl)
        clear hl hE
        go_wp2
        go_ret
        rw [hn.out]
        exact ⟨rfl, hD.out⟩
      · obtain ⟨y1, y2, y3, y4⟩ := str_yes hy
        have hn : Hid (orI LX y = y) := hid (by rw [hE.out, hl]; unfold cmpI; rw [if_neg (by omega), if_neg (by omega)]; rfl)
        clear hl hE
        go_wp2_with fail
        refine (cS _).mono ?_
        rintro e w3 ⟨rfl, rfl⟩
        go_wp2
        go_ret
        rw [hn.out]
        exact ⟨rfl, hD.out⟩
end Go.Proofs.YtlgmanbilaminaaGreatDoor.S3
namespace Go.Proofs.YtlgmanbilaminaaGreatDoor.S12
open Go Go.Proofs Go.RowKit Go.Lib Go.Proofs.YtlgmanbilaminaaGreatDoor Go.Proofs.YtlgmanbilaminaaGreatDoor.S11
theorem below_cellsQ {B b : Nat} (hB : B ≤ b) : ∀ (vs : List Value) (o : Nat) (w : World), Below B w (w.setCells b o vs)
  | [], _, w => Below.refl B w
  | v :: r, o, w => ((Below.refl B w).setCell (p := ⟨b, o, none⟩) hB v).trans (below_cellsQ hB r (o + 1) _)
theorem heap_setCellsQ (b : Nat) (t : TypeId) : ∀ (vs : List Value) (o : Nat) (w : World) (cs : Array Value), w.heap[b]? = some (.cells cs t (0, 0)) →
    ∃ cs' : Array Value, (w.setCells b o vs).heap[b]? = some (.cells cs' t (0, 0)) ∧ cs'.size = cs.size ∧ (∀ j, j < o ∨ o + vs.length ≤ j → cs'[j]? = cs[j]?) ∧ (∀ j, j < vs.length → o + j < cs.size → cs'[o + j]? = vs[j]?)
  | [], o, w, cs, h => ⟨cs, h, rfl, fun _ _ => rfl, fun j hj => by simp at hj⟩
  | v :: r, o, w, cs, h => by
    obtain ⟨cs', h1, h2, h3, h4⟩ := heap_setCellsQ b t r (o + 1) (w.setCell ⟨b, o, none⟩ v) _ (heap_setCell_same w b o cs t v h)
    rw [Array.size_setIfInBounds] at h2 h4
    refine ⟨cs', h1, h2, fun j hj => ?_, fun j hj hs => ?_⟩
    · rw [h3 j (by simp at hj; omega), Array.getElem?_setIfInBounds_ne (by simp at hj; omega)]
    · cases j with
      | zero =>
        have e := h3 o (.inl (by omega))
        rw [Nat.add_zero, e, Array.getElem?_setIfInBounds_self_of_lt (by omega)]
        rfl
      | succ j =>
        have e := h4 j (by simpa using hj) (by omega)
        rw [show o + (j + 1) = o + 1 + j by omega, e]
        rfl
theorem step_append_run {P : Program} {ops : Array Oper} {o : Oper} {a : Act} {w : World} {K : Act → World → Prop} {Q : Exit → Act → World → Prop} {E : Prop} (hgd : o.guard = none) (s x : Operand) (t : TypeId)
    (ho : o.op = .call { callee := .builtin .append, args := #[s, x], argTypes := #[t, t] }) (v xv r : Value) (w' : World) (hs : a.eval s = v) (hx : a.eval x = xv)
    (hrun : (Builtin.append_ #[t, t] o.type #[v, xv]).run P w = .ok r w') (h : K (a.put o.dst r) w') :
    if Region.wanted o (yielded ops a.tmps) = true then Oper.wp P o a w K Q else E := by
  have hw : Region.wanted o (yielded ops a.tmps) = true := by simp [Region.wanted, hgd]
  rw [if_pos hw]
  unfold Oper.wp execOp
  simp only [ho, resolve, invoke, builtin, Sem.run_bind, Sem.run_pure, Result.andThen_ok, List.map_toArray, List.map_cons, List.map_nil, hs, hx, hrun]
  exact h
theorem row_some {w : World} {B e z n : Nat} {v : Value} {xs : List Value} (h : w.ownsRow B e z v n xs) (hn : 0 < n) : ∃ g cap, v = .slice (some ⟨g, 0, none⟩) n cap := by
  rcases h.2 with ⟨_, h0⟩ | ⟨g, cap, cur, hv, _⟩
  · omega
  · exact ⟨g, cap, hv⟩
theorem row_putG {w : World} {B e z g n cap k m : Nat} {xs news : List Value} (h : w.ownsRow B e z (.slice (some ⟨g, 0, none⟩) n cap) n xs) (hk : k ≤ n) (hm : news.length = m * z) (hn : n ≤ k + m) (hroom : k + m ≤ cap) :
    (w.setCells g (k * z) news).ownsRow B e z (.slice (some ⟨g, 0, none⟩) (k + m) cap) (k + m) (xs.take (k * z) ++ news) := by
  obtain ⟨h1, h2⟩ := h
  rcases h2 with ⟨hv, _⟩ | ⟨g', cap', cur, hv, hB, hg, hc, hmx, hs, ht⟩
  · cases hv
  · injection hv with e1 e2 e3
    injection e1 with e1
    injection e1 with e1
    subst e1
    subst e3
    have hkz : k * z ≤ n * z := Nat.mul_le_mul_right _ hk
    have hrz : (k + m) * z ≤ cap * z := Nat.mul_le_mul_right _ hroom
    have hnz : n * z ≤ (k + m) * z := Nat.mul_le_mul_right _ hn
    have hkm : (k + m) * z = k * z + m * z := Nat.add_mul _ _ _
    obtain ⟨cs', q1, q2, q3, q4⟩ := heap_setCellsQ g e news (k * z) w cur hg
    have hx : xs.length = n * z := h1
    refine ⟨by rw [List.length_append, List.length_take]; omega, .inr ⟨g, cap, cs', rfl, hB, q1, hroom, hmx, by omega, ?_⟩⟩
    apply List.ext_getElem?
    intro j
    rw [List.getElem?_take]
    rcases Nat.lt_or_ge j (k * z) with hj | hj
    · rw [if_pos (by omega), List.getElem?_append_left (by rw [List.length_take]; omega), List.getElem?_take, if_pos hj, Array.getElem?_toList, q3 j (.inl hj), ← ht, List.getElem?_take, if_pos (by omega), Array.getElem?_toList]
    · rw [List.getElem?_append_right (by rw [List.length_take]; omega), List.length_take, show min (k * z) xs.length = k * z by omega]
      rcases Nat.lt_or_ge j (k * z + news.length) with hj2 | hj2
      · rw [if_pos (by omega), Array.getElem?_toList]
        have e := q4 (j - k * z) (by omega) (by omega)
        rw [show k * z + (j - k * z) = j by omega] at e
        exact e
      · rw [if_neg (by omega), List.getElem?_eq_none (by omega)]
def AtQ (B : Nat) (e : TypeId) (z : Nat) (w w' : World) (v : Value) (n : Nat) (vs : List Value) : Prop := w'.ownsRow B e z v n vs ∧ Below B w w'
def SrtB (L : List Str) (l : List ReqD) : Prop := L.Perm (studs l) ∧ L.Pairwise (fun a b => leS a b = true)
theorem SrtB.nil : SrtB [] [] := ⟨.refl _, .nil⟩
theorem SrtB.mem {L : List Str} {l : List ReqD} (h : SrtB L l) (s : Str) : s ∈ L ↔ s ∈ studs l := h.1.mem_iff
theorem SrtB.skip {L : List Str} {l : List ReqD} (h : SrtB L l) (r : ReqD) (hr : r.s ∈ L) : SrtB L (l ++ [r]) := ⟨by rw [studs_snoc]; unfold addS; rw [if_pos ((h.mem r.s).1 hr)]; exact h.1, h.2⟩
theorem SrtB.put {L : List Str} {l : List ReqD} (h : SrtB L l) (r : ReqD) (x : Str) (hx : r.s = x) (hr : x ∉ L) (k : Nat) (hk : k ≤ L.length) (h1 : ∀ j (hj : j < L.length), k ≤ j → S3.cmpM x L[j] < 0) (h2 : ∀ j (hj : j < L.length), j + 1 = k → ¬ S3.cmpM x L[j] < 0) :
    SrtB (L.take k ++ x :: L.drop k) (l ++ [r]) := by
  subst hx
  obtain ⟨hp, hs⟩ := h
  refine ⟨?_, ?_⟩
  · refine List.perm_middle.trans ?_
    rw [List.take_append_drop, studs_snoc]
    unfold addS
    rw [if_neg (fun k => hr (hp.mem_iff.2 k))]
    exact (hp.cons r.s).trans (List.perm_append_singleton r.s (studs l)).symm
  · have hs' := hs
    rw [← List.take_append_drop k L, List.pairwise_append] at hs'
    obtain ⟨s1, s2, s3⟩ := hs'
    have hd : ∀ b ∈ L.drop k, leS r.s b = true := by
      intro b hb
      obtain ⟨j, hj, rfl⟩ := List.mem_iff_getElem.1 hb
      rw [List.getElem_drop]
      have := h1 (k + j) (by rw [List.length_drop] at hj; omega) (by omega)
      exact decide_eq_true (by omega)
    have ht : ∀ a ∈ L.take k, leS a r.s = true := by
      intro a ha
      obtain ⟨j, hj, rfl⟩ := List.mem_iff_getElem.1 ha
      rw [List.length_take] at hj
      rw [List.getElem_take]
      obtain ⟨m, rfl⟩ : ∃ m, k = m + 1 := ⟨k - 1, by omega⟩
      have hm : m < L.length := by omega
      have hx := h2 m hm rfl
      have hmx : leS L[m] r.s = true := decide_eq_true (by have := cmp_swap r.s L[m]; omega)
      rcases (show j = m ∨ j < m by omega) with rfl | hlt
      · exact hmx
      · exact leS_trans _ _ _ ((List.pairwise_iff_getElem.1 hs) j m (by omega) hm hlt) hmx
    rw [List.pairwise_append]
    refine ⟨s1, List.pairwise_cons.2 ⟨hd, s2⟩, fun a ha b hb => ?_⟩
    rcases List.mem_cons.1 hb with rfl | hb
    · exact ht a ha
    · exact s3 a ha b hb
set_option maxHeartbeats 32000000 in
set_option maxRecDepth 100000 in
theorem rstudents_any (A : Option Addr) (l : List ReqD) (c : Nat) (w : World) (h : ReqsIn w (fun k => k < w.heap.size) A l) (hl : l.length ≤ 1099511627776) (hz : ∀ r ∈ l, r.s.length ≤ 9223372036854775807) :
    Calls Tryz.prog 19 #[.slice A l.length c] w (S3.RowOut (studM l) w) := by
  obtain ⟨i9, hi9, hz9, hsi9, hby9⟩ := info_parts S3.infoStr
  unfold S3.RowOut
  have HH := hid h
  have HZ := hid hz
  have HLL := hid hl
  clear h hz
  go_enter Tryz.func19, Tryz.ntmps19
  go_wp2
  go_loopw [3, 4] (fun ov iv wr => ∃ (i n : Nat) (L : List Str) (Ao : Option Addr) (co : Nat), ov = .slice Ao n co ∧ iv = .int .i64 (i : Int) ∧ i ≤ l.length ∧ n ≤ i ∧ Hid (L.length = n) ∧ Hid (SrtB L (l.take i)) ∧ Hid (AtQ w.heap.size 9 1 w wr (.slice Ao n co) n (S3.strVals L))) (fun _ iv _ => l.length - (RowKit.intOf iv).toNat)
  case atStart => exact ⟨0, 0, [], none, 0, rfl, rfl, Nat.zero_le _, Nat.zero_le _, hid rfl, hid SrtB.nil, hid ⟨World.ownsRow_nil _ _ _ _, Below.refl _ _⟩⟩
  case round =>
    obtain ⟨i, n, L, Ao, co, rfl, rfl, hi, hn, hLn, hso, hA⟩ := hrel
    by_cases hlt : i < l.length
    · have hltz : (i : Int) < (l.length : Int) := by omega
      obtain ⟨b, off, qa, rfl, hbl, hri, y0, y1, y2, y3⟩ := HH.out.at_ hlt
      have hxz := HZ.out _ (List.getElem_mem hlt)
      obtain ⟨x, hx⟩ : ∃ x, (l[i]).s = x := ⟨_, rfl⟩
      have htk : Hid (l.take (i + 1) = l.take i ++ [l[i]]) := hid (List.take_succ_eq_append_getElem hlt)
      have HXR := hid hx
      rw [hx] at y0 hxz
      obtain ⟨X, hX⟩ : ∃ X, ba x = X := ⟨_, rfl⟩
      have hsv : Hid (S3.strV x = .string X) := hid (by rw [← hX]; rfl)
      have HXB := hid hX
      rw [hX] at y0
      have di : decide (l.length ≤ i) = false := decide_eq_false (by omega)
      have hc2 : wr.cell? ⟨b, off + i * 4, none⟩ = some (.string X) := (hA.out.2.cell (p := ⟨b, off + i * 4, none⟩) hbl).trans y0
      have hin : S3.StrsIn wr (fun k => w.heap.size ≤ k ∧ k < wr.heap.size) Ao L := by
        obtain ⟨Ar', cr', hv, _, _, hin⟩ := (show S3.StrRow wr w.heap.size (.slice Ao n co) L by unfold S3.StrRow; rw [hLn.out]; exact hA.out.1).strsIn
        have hv' : Ao = Ar' := by injection hv
        rw [hv']; exact hin
      have cH := rhas_any Ao L co X _ wr hin (by rw [hLn.out]; omega)
      rw [hLn.out, show lst X = x by rw [← hX]; rfl] at cH
      have CH := hid cH
      clear y0 y1 y2 y3 hri hin cH hx hX
      go_wp2_with fail
      refine CH.out.mono ?_
      rintro e w' ⟨rfl, rfl⟩
      by_cases hm : x ∈ L
      · have hmd : decide (x ∈ L) = true := decide_eq_true hm
        have HN : Hid (SrtB L (l.take (i + 1))) := hid (by rw [htk.out]; exact hso.out.skip _ (by rw [HXR.out]; exact hm))
        clear CH hc2
        rw [hmd]
        clear hm hmd
        go_wp2
        go_roundw
        case rel => exact ⟨i + 1, n, L, Ao, co, rfl, by go_num, by omega, by omega, hLn, HN, hA⟩
        case measure => simp [RowKit.intOf]; omega
      · have hmd : decide (x ∈ L) = false := decide_eq_false hm
        have HNM := hid hm
        rw [hmd]
        have HSM : Hid (∀ y ∈ L, y.length ≤ 9223372036854775807) := hid (fun y hy => by
          obtain ⟨r, hr, e⟩ := (mem_studs _ _).1 ((hso.out.mem y).1 hy)
          rw [← e]
          exact HZ.out r (List.mem_of_mem_take hr))
        have hXl : X.size ≤ 9223372036854775807 := by rw [← HXB.out, Lib.size_eq]; exact hxz
        clear CH hm hmd hc2 hxz
        go_wp2
        generalize hzz : wr = wz at *
        clear hzz
        go_loopw [6] (fun kv wr2 => ∃ k : Nat, kv = .int .i64 (k : Int) ∧ k ≤ n ∧ Hid (∀ j (hj : j < L.length), k ≤ j → S3.cmpM x L[j] < 0) ∧ Hid (∃ q, wr2 = wz.drewN q)) (fun kv _ => (RowKit.intOf kv).toNat)
        case atStart => exact ⟨n, rfl, Nat.le_refl _, hid (fun j hj h => absurd hj (by rw [hLn.out]; omega)), hid ⟨0, rfl⟩⟩
        case round =>
          obtain ⟨k, rfl, hk, hgt, HQ⟩ := hrel
          have hst : ∀ k, wr.heap[k]? = wz.heap[k]? := fun k => by obtain ⟨q, hq⟩ := HQ.out; rw [hq, S3.drewN_heap]
          obtain ⟨VL, hVLe⟩ : ∃ V, S3.strVals L = V := ⟨_, rfl⟩
          have hVL : Hid (VL.length = n * 1) := hid (by rw [← hVLe, S3.strVals_len, hLn.out, Nat.mul_one])
          have HV1 : Hid (∀ u ∈ VL, u.oneCell' = true) := hid (fun u hu => by rw [← hVLe] at hu; unfold S3.strVals at hu; obtain ⟨s, _, rfl⟩ := List.mem_map.1 hu; rfl)
          have HX1 : Hid (∀ u ∈ [Value.string X], u.oneCell' = true) := hid (S3.one_str X)
          have hvals : Hid (∀ k, S3.strVals (L.take k ++ x :: L.drop k) = VL.take (k * 1) ++ ([.string X] ++ VL.drop (k * 1))) := hid (fun k => by rw [S3.strVals_app, Nat.mul_one, ← hVLe]; unfold S3.strVals; rw [List.map_take, List.map_cons, List.map_drop, hsv.out]; rfl)
          have HVE := hid hVLe
          rcases Nat.eq_zero_or_pos k with hk0 | hk0
          · have hle : Hid (∀ j (hj : j < L.length), j + 1 = k → ¬ S3.cmpM x L[j] < 0) := hid (fun j hj e => by omega)
            have hgz : ¬ (0 : Int) < (k : Int) := by omega
            have hgd : decide (0 < k) = false := decide_eq_false (by omega)
            clear hk0
            go_upto_region 10 with fail
            obtain ⟨wq, hwq⟩ : ∃ wq, wr = wq := ⟨_, rfl⟩
            have hsq : ∀ j, wq.heap[j]? = wz.heap[j]? := fun j => by obtain ⟨q, hq⟩ := HQ.out; rw [← hwq, hq]; rw [S3.drewN_heap]
            have hbz : Below wz.heap.size wz wq := by obtain ⟨q, hq⟩ := HQ.out; rw [← hwq, hq]; exact S3.below_drewN (Below.refl _ wz) q
            have hbq : Below w.heap.size w wq := hA.out.2.trans (hbz.mono hA.out.2.size)
            have hoq : wq.ownsRow w.heap.size 9 1 (.slice Ao n co) n VL := by rw [← HVE.out]; exact S3.row_under hA.out.1 hbz
            have HOQ := hid hoq
            have HBQ := hid hbq
            have hsz := hbq.size
            have hln : Hid ((L.take k ++ x :: L.drop k).length = k + (1 + (n - k))) := hid (by rw [List.length_append, List.length_take, List.length_cons, List.length_drop, hLn.out]; omega)
            have hnew : Hid (SrtB (L.take k ++ x :: L.drop k) (l.take (i + 1))) := hid (by rw [htk.out]; exact hso.out.put _ x HXR.out HNM.out k (by rw [hLn.out]; exact hk) hgt.out (fun j hj e => by have := hle.out j hj e; omega))
            (try rw [hwq])
            clear hsq hbz hbq hoq hVLe hst
            clear hwq
            obtain ⟨W1, hW1⟩ : ∃ W1, (wq.alloc (.cells #[.string X] 9)).drew = W1 := ⟨_, rfl⟩
            have hown1 : W1.ownsRow wq.heap.size 9 1 (.slice (some ⟨wq.heap.size, 0, none⟩) 1 1) 1 [Value.string X] := by rw [← hW1]; exact World.ownsRow_lit wq #[.string X] 1 (Nat.le_refl _) (by unfold maxLen; omega) rfl
            have hb1 : Below wq.heap.size wq W1 := by rw [← hW1]; exact ((Below.refl _ wq).alloc (Nat.le_refl _) _).drew
            have hz1 : Hid (W1.heap.size = wq.heap.size + 1) := hid (by rw [← hW1]; simp)
            have HOWN1 := hid hown1
            have HB1 := hid hb1
            have HW1 := hid hW1
            clear hown1 hb1 hW1
            rcases HOQ.out.2 with ⟨hv, hn0⟩ | ⟨g', cap, cur, hv, hgB, hgh, hnc, hcm, hcs, _⟩
            · injection hv with e1 _ e3
              subst e1
              subst hn0
              subst e3
              obtain rfl : k = 0 := by omega
              have hrun := run_append_owned_none (P := Tryz.prog) (w := W1) wq.heap.size 40 40 9 i9 1 Tryz.underlying40 hi9 _ 1 _ HOWN1.out
              have HRUN := hid (show (Builtin.append_ #[40, 40] 40 #[.slice (some ⟨wq.heap.size, 0, none⟩) 1 1, .slice none 0 0]).run Tryz.prog ((wq.alloc (.cells #[.string X] 9)).drew) = .ok (.slice (some ⟨wq.heap.size, 0, none⟩) 1 1) ((wq.alloc (.cells #[.string X] 9)).drew) from by rw [HW1.out]; exact hrun)
              have HM2 : Hid (∀ o : Obj, w.heap.size ≤ ((wq.alloc o).drew).heap.size) := hid (fun o => by simp; omega)
              have HM3 : Hid ((0 + 1) * 16 ≤ 140737488355328) := hid (by omega)
              have HM4 : Hid (0 + 1 ≤ maxLen) := hid (by unfold maxLen; omega)
              have HNW : Hid (∀ j u, ([Value.string X] : List Value)[j]? = some u → ((wq.alloc (.cells #[.string X] 9)).drew).cell? ((⟨wq.heap.size, 0, none⟩ : Addr).add j) = some u) := hid (fun j u hj => by rw [HW1.out]; exact World.ownsRow.cells HOWN1.out (g := wq.heap.size) rfl j u hj)
              clear hrun
              simp only [show ((0 : Nat) : Int) = 0 from rfl]
              go_upto_region 10 with fail
              go_region_law (first
                | (refine step_append_run (by rfl) _ _ 40 (by rfl) (.slice (some ⟨wq.heap.size, 0, none⟩) 1 1) (.slice none 0 0) (.slice (some ⟨wq.heap.size, 0, none⟩) 1 1) ((wq.alloc (.cells #[.string X] 9)).drew) (by rfl) (by rfl) HRUN.out ?_)
                | (refine step_append_lies _ (by rfl) _ _ 40 (by rfl) w.heap.size 9 i9 (.string ⟨#[]⟩) 1 16 Tryz.underlying40 hi9 hz9 hsi9 hby9 rfl (by omega) (.slice none 0 0) 0 [] (by rfl) (World.ownsRow_nil _ _ _ _)
                    ⟨wq.heap.size, 0, none⟩ 1 1 [Value.string X] (by rfl) (by rfl) HNW.out HX1.out (by omega) HM4.out HM3.out (HM2.out _) (wq.heap.size + 1) (by simp) ?_
                   intro g7 cap7 w7 hown3 hgrow7 hat7 hlt7
                   have HOWN7 := hid hown3
                   have HG7 : Hid (wq.grownBy w7 none) := hid ⟨hgrow7.os, hgrow7.tape, hgrow7.output, Nat.le_trans (by show wq.heap.size ≤ ((wq.alloc _).drew).heap.size; simp) hgrow7.size, fun k hk hne => (hgrow7.block k (Nat.lt_of_lt_of_le hk (by show wq.heap.size ≤ ((wq.alloc _).drew).heap.size; simp)) hne).trans (heap_alloc_old wq _ hk)⟩
                   clear hown3 hgrow7 hat7 hlt7))
              all_goals
                have HVN : Hid (VL = []) := hid (List.eq_nil_of_length_eq_zero (by rw [hVL.out]))
                have HFIN : Hid (AtQ w.heap.size 9 1 w w7 (.slice (some ⟨g7, 0, none⟩) (0 + 1) cap7) (0 + 1) (VL.take (0 * 1) ++ ([Value.string X] ++ VL.drop (0 * 1)))) := hid ⟨by
                  rw [HVN.out]
                  exact HOWN7.out, HBQ.out.grown HG7.out hsz (fun k e => by cases e)⟩
                go_wp2_with fail
                go_roundw
                case rel => exact ⟨i + 1, 0 + 1, _, some ⟨g7, 0, none⟩, cap7, rfl, by go_num, by omega, by omega, hid (by rw [hln.out]), hid hnew.out, by rw [hvals.out]; exact HFIN⟩
                case measure => simp [RowKit.intOf]; omega
            · injection hv with e1 _ e3
              subst e1
              subst e3
              have hgl : g' < wq.heap.size := (Array.getElem?_eq_some_iff.1 hgh).1
              obtain ⟨gg, hgg⟩ : ∃ gg, gg = g' := ⟨_, rfl⟩
              have hvl : Hid ((VL.drop (k * 1)).length = (n - k) * 1) := hid (by rw [List.length_drop, hVL.out, ← Nat.sub_mul])
              have hvt : Hid ((VL.take (k * 1)).length = k * 1) := hid (by rw [List.length_take, hVL.out]; exact Nat.min_eq_left (Nat.mul_le_mul_right _ hk))
              obtain ⟨ad, had, hcad⟩ : ∃ ad : Addr, (if co = k then some (⟨gg, 0, none⟩ : Addr) else some ⟨gg, k, none⟩) = some ad ∧ ∀ j u, (VL.drop (k * 1))[j]? = some u → W1.cell? (ad.add j) = some u := by
                by_cases e : co = k
                · refine ⟨⟨gg, 0, none⟩, if_pos e, fun j u hj => ?_⟩
                  have := (List.getElem?_eq_some_iff.1 hj).1
                  rw [hvl.out] at this
                  omega
                · refine ⟨⟨gg, k, none⟩, if_neg e, fun j u hj => ?_⟩
                  rw [Addr.add_lit]
                  have e2 : VL[k * 1 + j]? = some u := by rw [List.getElem?_drop] at hj; exact hj
                  have e3 := World.ownsRow.cells HOQ.out (g := gg) (by rw [hgg]; rfl) (k * 1 + j) u e2
                  rw [Addr.add_lit, Nat.zero_add] at e3
                  rw [Nat.mul_one] at e3
                  exact (HB1.out.cell (p := ⟨gg, k + j, none⟩) (by rw [hgg]; exact hgl)).trans e3
              obtain ⟨v7, w7, hrun7, hown7, hg7, _, _⟩ := run_append_own_at (P := Tryz.prog) (w := W1) wq.heap.size 40 40 9 i9 (.string ⟨#[]⟩) 1 16 Tryz.underlying40 hi9 hz9 hsi9 hby9 rfl (by omega) (.slice (some ⟨wq.heap.size, 0, none⟩) 1 1) 1 [Value.string X] HOWN1.out ad (n - k) (co - k) (VL.drop (k * 1)) hvl.out hcad (fun u hu => HV1.out u (List.mem_of_mem_drop hu)) (by unfold maxLen; omega) (by omega) (by rw [hz1.out]; omega)
              obtain ⟨g7, cap7, rfl⟩ := row_some hown7 (by omega)
              subst hgg
              have HRUN : Hid ((Builtin.append_ #[40, 40] 40 #[.slice (some ⟨wq.heap.size, 0, none⟩) 1 1, .slice (if co = k then some (⟨gg, 0, none⟩ : Addr) else some ⟨gg, k, none⟩) (n - k) (co - k)]).run Tryz.prog ((wq.alloc (.cells #[.string X] 9)).drew) = .ok (.slice (some ⟨g7, 0, none⟩) (1 + (n - k)) cap7) w7) := hid (by rw [had, HW1.out]; exact hrun7)
              have hb7 : Below wq.heap.size wq w7 := HB1.out.grown hg7 (by rw [hz1.out]; omega) (fun j e => (World.ownsRow.lt HOWN1.out j e).1)
              have hgh7 : w7.heap[gg]? = some (.cells cur 9 (0, 0)) := (hb7.block gg hgl).trans hgh
              have HB7 := hid hb7
              have HG7 := hid hgh7
              have HOWN7 := hid hown7
              have HOG7 : Hid (w7.ownsRow w.heap.size 9 1 (.slice (some ⟨gg, 0, none⟩) n co) n VL) := hid (S3.row_under HOQ.out hb7)
              have HN1 : Hid (([Value.string X] ++ VL.drop (k * 1)).length = (1 + (n - k)) * 1) := hid (by rw [List.length_append, hvl.out, Nat.add_mul]; rfl)
              have HN2 : Hid (∀ j u, ([Value.string X] ++ VL.drop (k * 1))[j]? = some u → w7.cell? ((⟨g7, 0, none⟩ : Addr).add j) = some u) := hid (fun j u hj => World.ownsRow.cells hown7 (g := g7) rfl j u hj)
              have HN3 : Hid (∀ u ∈ [Value.string X] ++ VL.drop (k * 1), u.oneCell' = true) := hid (fun u hu => by
                rcases List.mem_append.1 hu with hu | hu
                · exact HX1.out u hu
                · exact HV1.out u (List.mem_of_mem_drop hu))
              clear hcad had hrun7 hown7 hg7 hb7 hgh7 hgh
              by_cases hroom : n + 1 ≤ co
              · have HSP : Hid (∀ j, j < ([Value.string X] ++ VL.drop (k * 1)).length → (w7.cell? ⟨gg, 0 + k * 1 + j, none⟩).isSome = true ∧ w7.frozen? ⟨gg, 0 + k * 1 + j, none⟩ = false) := hid (fun j hj => by
                  rw [HN1.out] at hj
                  refine ⟨?_, ?_⟩
                  · have hjs : 0 + k * 1 + j < cur.size := by rw [hcs]; omega
                    rw [Lib.cell_of_heap HG7.out, Array.getElem?_eq_getElem hjs]; rfl
                  · simp [World.frozen?, HG7.out])
                have HR : Hid (k + (1 + (n - k)) ≤ co) := hid (by omega)
                have HFIN : Hid (AtQ w.heap.size 9 1 w (w7.setCells gg (k * 1) ([Value.string X] ++ VL.drop (k * 1))) (.slice (some ⟨gg, 0, none⟩) (k + (1 + (n - k))) co) (k + (1 + (n - k))) (VL.take (k * 1) ++ ([Value.string X] ++ VL.drop (k * 1)))) := hid ⟨row_putG HOG7.out hk HN1.out (by omega) HR.out, (HBQ.out.trans (HB7.out.mono hsz)).trans (below_cellsQ hgB _ _ _)⟩
                have hiz : (k : Int) ≤ (n : Int) := by omega
                have hkc : (k : Int) ≤ (co : Int) := by omega
                have h0z : (0 : Int) ≤ (k : Int) := by omega
                clear hroom
                go_upto_region 10 with fail
                go_region_law (first
                  | (refine step_append_run (by rfl) _ _ 40 (by rfl) (.slice (some ⟨wq.heap.size, 0, none⟩) 1 1) (.slice (if co = k then some (⟨gg, 0, none⟩ : Addr) else some ⟨gg, k, none⟩) (n - k) (co - k)) (.slice (some ⟨g7, 0, none⟩) (1 + (n - k)) cap7) w7 (by rfl) (by rfl) HRUN.out ?_)
                  | (refine step_append_room (by rfl) _ _ 40 (by rfl) 9 i9 1 Tryz.underlying40 hi9 hsi9 gg 0 k co (by rfl) ⟨g7, 0, none⟩ (1 + (n - k)) cap7 ([Value.string X] ++ VL.drop (k * 1)) (by rfl) HN1.out HN2.out HN3.out HR.out HSP.out ?_))
                all_goals
                  go_wp2_with fail
                  go_roundw
                  case rel => exact ⟨i + 1, k + (1 + (n - k)), _, some ⟨gg, 0, none⟩, co, rfl, by go_num, by omega, by omega, hid (by rw [hln.out]), hid hnew.out, by rw [hvals.out]; simpa using HFIN⟩
                  case measure => simp [RowKit.intOf]; omega
              · have HF : Hid (co < k + (1 + (n - k))) := hid (by omega)
                have HM1 : Hid (k + (1 + (n - k)) ≤ maxLen) := hid (by unfold maxLen; omega)
                have HM2 : Hid ((k + (1 + (n - k))) * 16 ≤ 140737488355328) := hid (by omega)
                have HO2 : Hid (∀ b', some (⟨gg, 0, none⟩ : Addr) = some b' → ∀ j u, (VL.take (k * 1))[j]? = some u → w7.cell? (b'.add j) = some u) := hid (fun b' e j u hj => by
                  injection e with e
                  subst e
                  rw [List.getElem?_take] at hj
                  split at hj
                  · exact World.ownsRow.cells HOG7.out (g := gg) rfl j u hj
                  · cases hj)
                have hiz : (k : Int) ≤ (n : Int) := by omega
                have hkc : (k : Int) ≤ (co : Int) := by omega
                have h0z : (0 : Int) ≤ (k : Int) := by omega
                clear hroom
                go_upto_region 10 with fail
                go_region_law (first
                  | (refine step_append_run (by rfl) _ _ 40 (by rfl) (.slice (some ⟨wq.heap.size, 0, none⟩) 1 1) (.slice (if co = k then some (⟨gg, 0, none⟩ : Addr) else some ⟨gg, k, none⟩) (n - k) (co - k)) (.slice (some ⟨g7, 0, none⟩) (1 + (n - k)) cap7) w7 (by rfl) (by rfl) HRUN.out ?_)
                  | (refine step_append_grows (by rfl) _ _ 40 (by rfl) 9 i9 (.string ⟨#[]⟩) 1 16 Tryz.underlying40 hi9 hz9 hsi9 hby9 rfl (by decide) (some ⟨gg, 0, none⟩) k co (VL.take (k * 1)) (by rfl) (fun h => by cases h) hvt.out HO2.out ⟨g7, 0, none⟩ (1 + (n - k)) cap7 ([Value.string X] ++ VL.drop (k * 1)) (by rfl) HN1.out HN2.out HN3.out HF.out HM1.out HM2.out ?_
                     intro v8 w8 hown8 hgrow8
                     obtain ⟨g8, cap8, rfl⟩ := row_some hown8 (by omega)
                     have HFIN : Hid (AtQ w.heap.size 9 1 w w8 (.slice (some ⟨g8, 0, none⟩) (k + (1 + (n - k))) cap8) (k + (1 + (n - k))) (VL.take (k * 1) ++ ([Value.string X] ++ VL.drop (k * 1)))) := hid ⟨rowLow hown8 (Nat.le_trans hsz HB7.out.size), (HBQ.out.trans (HB7.out.mono hsz)).grown hgrow8 (Nat.le_trans hsz HB7.out.size) (fun j e => by cases e)⟩
                     clear hown8 hgrow8))
                all_goals
                  go_wp2_with fail
                  go_roundw
                  case rel => exact ⟨i + 1, k + (1 + (n - k)), _, some ⟨g8, 0, none⟩, cap8, rfl, by go_num, by omega, by omega, hid (by rw [hln.out]), hid hnew.out, by rw [hvals.out]; exact HFIN⟩
                  case measure => simp [RowKit.intOf]; omega
          · obtain ⟨k', hk'⟩ : ∃ k', k' + 1 = k := ⟨k - 1, by omega⟩
            have hkl : k' < L.length := by rw [hLn.out]; omega
            obtain ⟨y, hy⟩ : ∃ y, L[k'] = y := ⟨_, rfl⟩
            obtain ⟨Y, hY⟩ : ∃ Y, ba y = Y := ⟨_, rfl⟩
            obtain ⟨g, hAo, hc4⟩ : ∃ g, Ao = some ⟨g, 0, none⟩ ∧ wr.cell? ⟨g, k', none⟩ = some (.string Y) := by
              rcases hA.out.1.2 with ⟨e, h0⟩ | ⟨g, cap, cur, e, _⟩
              · omega
              · injection e with e1 e2 e3
                have := World.ownsRow.cells hA.out.1 (g := g) (by rw [e1]; rfl) k' (.string Y) (by unfold S3.strVals; rw [List.getElem?_map, List.getElem?_eq_getElem hkl, hy, ← hY]; rfl)
                rw [Addr.add_lit, Nat.zero_add] at this
                exact ⟨g, e1, (World.cell?_of_block (w := wz) (hst g)).trans this⟩
            subst hAo
            have cC := S3.refCompare_any X Y hXl (by rw [← hY, Lib.size_eq]; exact HSM.out y (hy ▸ List.getElem_mem hkl)) wr
            rw [show S3.lst X = x by rw [← HXB.out]; rfl, show S3.lst Y = y by rw [← hY]; rfl] at cC
            obtain ⟨V, hV⟩ : ∃ V, S3.cmpM x y = V := ⟨_, rfl⟩
            rw [hV] at cC
            have HV := hid hV
            have HY := hid hy
            have CC := hid cC
            have hgz : (0 : Int) < (k : Int) := by omega
            have hgd : decide (0 < k) = true := decide_eq_true (by omega)
            have q1 : IntKind.i64.wrap ((k : Int) - 1) = (k' : Int) := by rw [show (k : Int) - 1 = (k' : Int) by omega]; exact IntWalk.i64_in _ (by omega)
            have q2 : (k : Int) - 1 = (k' : Int) := by omega
            have q3 : (k' : Int) < (n : Int) := by omega
            have d2 : decide (n ≤ k') = false := decide_eq_false (by omega)
            clear hk0 hy hY hst hV cC
            go_wp2_with fail
            refine CC.out.mono ?_
            rintro e w' ⟨rfl, q', rfl⟩
            by_cases hxy : V < 0
            · have hlb : decide (V < 0) = true := decide_eq_true hxy
              have hnx : Hid (∀ j (hj : j < L.length), k' ≤ j → S3.cmpM x L[j] < 0) := hid (fun j hj hkj => by
                rcases Nat.lt_or_ge j k with h | h
                · obtain rfl : j = k' := by omega
                  rw [HY.out, HV.out]
                  exact hxy
                · exact hgt.out j hj h)
              have hkm : k' < k := by omega
              have hkn : k' ≤ n := by omega
              clear hk' hVLe
              go_wp2
              go_roundw
              case rel => exact ⟨k', by first | rfl | go_num, hkn, hnx, hid (by obtain ⟨q, hq⟩ := HQ.out; exact ⟨q + q', by rw [hq, World.drewN_drewN]⟩)⟩
              case measure => simp [RowKit.intOf]; omega
            · have hlb : decide (V < 0) = false := decide_eq_false hxy
              have hle : Hid (∀ j (hj : j < L.length), j + 1 = k → ¬ S3.cmpM x L[j] < 0) := hid (fun j hj e => by
                obtain rfl : j = k' := by omega
                rw [HY.out, HV.out]
                exact hxy)
              clear hk'
              go_upto_region 10 with fail
              obtain ⟨wq, hwq⟩ : ∃ wq, wr.drewN q' = wq := ⟨_, rfl⟩
              have hsq : ∀ j, wq.heap[j]? = wz.heap[j]? := fun j => by obtain ⟨q, hq⟩ := HQ.out; rw [← hwq, hq]; rw [S3.drewN_heap, S3.drewN_heap]
              have hbz : Below wz.heap.size wz wq := by obtain ⟨q, hq⟩ := HQ.out; rw [← hwq, hq]; exact S3.below_drewN (S3.below_drewN (Below.refl _ wz) q) _
              have hbq : Below w.heap.size w wq := hA.out.2.trans (hbz.mono hA.out.2.size)
              have hoq : wq.ownsRow w.heap.size 9 1 (.slice (some ⟨g, 0, none⟩) n co) n VL := by rw [← HVE.out]; exact S3.row_under hA.out.1 hbz
              have HOQ := hid hoq
              have HBQ := hid hbq
              have hsz := hbq.size
              have hln : Hid ((L.take k ++ x :: L.drop k).length = k + (1 + (n - k))) := hid (by rw [List.length_append, List.length_take, List.length_cons, List.length_drop, hLn.out]; omega)
              have hnew : Hid (SrtB (L.take k ++ x :: L.drop k) (l.take (i + 1))) := hid (by rw [htk.out]; exact hso.out.put _ x HXR.out HNM.out k (by rw [hLn.out]; exact hk) hgt.out (fun j hj e => by have := hle.out j hj e; omega))
              (try rw [hwq])
              clear hsq hbz hbq hoq hVLe
              clear hwq
              obtain ⟨W1, hW1⟩ : ∃ W1, (wq.alloc (.cells #[.string X] 9)).drew = W1 := ⟨_, rfl⟩
              have hown1 : W1.ownsRow wq.heap.size 9 1 (.slice (some ⟨wq.heap.size, 0, none⟩) 1 1) 1 [Value.string X] := by rw [← hW1]; exact World.ownsRow_lit wq #[.string X] 1 (Nat.le_refl _) (by unfold maxLen; omega) rfl
              have hb1 : Below wq.heap.size wq W1 := by rw [← hW1]; exact ((Below.refl _ wq).alloc (Nat.le_refl _) _).drew
              have hz1 : Hid (W1.heap.size = wq.heap.size + 1) := hid (by rw [← hW1]; simp)
              have HOWN1 := hid hown1
              have HB1 := hid hb1
              have HW1 := hid hW1
              clear hown1 hb1 hW1
              rcases HOQ.out.2 with ⟨hv, hn0⟩ | ⟨g', cap, cur, hv, hgB, hgh, hnc, hcm, hcs, _⟩
              · cases hv
              · injection hv with e1 _ e3
                injection e1 with e1
                injection e1 with e1
                subst e1
                subst e3
                have hgl : g < wq.heap.size := (Array.getElem?_eq_some_iff.1 hgh).1
                obtain ⟨gg, hgg⟩ : ∃ gg, gg = g := ⟨_, rfl⟩
                have hvl : Hid ((VL.drop (k * 1)).length = (n - k) * 1) := hid (by rw [List.length_drop, hVL.out, ← Nat.sub_mul])
                have hvt : Hid ((VL.take (k * 1)).length = k * 1) := hid (by rw [List.length_take, hVL.out]; exact Nat.min_eq_left (Nat.mul_le_mul_right _ hk))
                obtain ⟨ad, had, hcad⟩ : ∃ ad : Addr, (if co = k then some (⟨gg, 0, none⟩ : Addr) else some ⟨gg, k, none⟩) = some ad ∧ ∀ j u, (VL.drop (k * 1))[j]? = some u → W1.cell? (ad.add j) = some u := by
                  by_cases e : co = k
                  · refine ⟨⟨gg, 0, none⟩, if_pos e, fun j u hj => ?_⟩
                    have := (List.getElem?_eq_some_iff.1 hj).1
                    rw [hvl.out] at this
                    omega
                  · refine ⟨⟨gg, k, none⟩, if_neg e, fun j u hj => ?_⟩
                    rw [Addr.add_lit]
                    have e2 : VL[k * 1 + j]? = some u := by rw [List.getElem?_drop] at hj; exact hj
                    have e3 := World.ownsRow.cells HOQ.out (g := gg) (by rw [hgg]; rfl) (k * 1 + j) u e2
                    rw [Addr.add_lit, Nat.zero_add] at e3
                    rw [Nat.mul_one] at e3
                    exact (HB1.out.cell (p := ⟨gg, k + j, none⟩) (by rw [hgg]; exact hgl)).trans e3
                obtain ⟨v7, w7, hrun7, hown7, hg7, _, _⟩ := run_append_own_at (P := Tryz.prog) (w := W1) wq.heap.size 40 40 9 i9 (.string ⟨#[]⟩) 1 16 Tryz.underlying40 hi9 hz9 hsi9 hby9 rfl (by omega) (.slice (some ⟨wq.heap.size, 0, none⟩) 1 1) 1 [Value.string X] HOWN1.out ad (n - k) (co - k) (VL.drop (k * 1)) hvl.out hcad (fun u hu => HV1.out u (List.mem_of_mem_drop hu)) (by unfold maxLen; omega) (by omega) (by rw [hz1.out]; omega)
                obtain ⟨g7, cap7, rfl⟩ := row_some hown7 (by omega)
                subst hgg
                have HRUN : Hid ((Builtin.append_ #[40, 40] 40 #[.slice (some ⟨wq.heap.size, 0, none⟩) 1 1, .slice (if co = k then some (⟨gg, 0, none⟩ : Addr) else some ⟨gg, k, none⟩) (n - k) (co - k)]).run Tryz.prog ((wq.alloc (.cells #[.string X] 9)).drew) = .ok (.slice (some ⟨g7, 0, none⟩) (1 + (n - k)) cap7) w7) := hid (by rw [had, HW1.out]; exact hrun7)
                have hb7 : Below wq.heap.size wq w7 := HB1.out.grown hg7 (by rw [hz1.out]; omega) (fun j e => (World.ownsRow.lt HOWN1.out j e).1)
                have hgh7 : w7.heap[gg]? = some (.cells cur 9 (0, 0)) := (hb7.block gg hgl).trans hgh
                have HB7 := hid hb7
                have HG7 := hid hgh7
                have HOWN7 := hid hown7
                have HOG7 : Hid (w7.ownsRow w.heap.size 9 1 (.slice (some ⟨gg, 0, none⟩) n co) n VL) := hid (S3.row_under HOQ.out hb7)
                have HN1 : Hid (([Value.string X] ++ VL.drop (k * 1)).length = (1 + (n - k)) * 1) := hid (by rw [List.length_append, hvl.out, Nat.add_mul]; rfl)
                have HN2 : Hid (∀ j u, ([Value.string X] ++ VL.drop (k * 1))[j]? = some u → w7.cell? ((⟨g7, 0, none⟩ : Addr).add j) = some u) := hid (fun j u hj => World.ownsRow.cells hown7 (g := g7) rfl j u hj)
                have HN3 : Hid (∀ u ∈ [Value.string X] ++ VL.drop (k * 1), u.oneCell' = true) := hid (fun u hu => by
                  rcases List.mem_append.1 hu with hu | hu
                  · exact HX1.out u hu
                  · exact HV1.out u (List.mem_of_mem_drop hu))
                clear hcad had hrun7 hown7 hg7 hb7 hgh7 hgh
                by_cases hroom : n + 1 ≤ co
                · have HSP : Hid (∀ j, j < ([Value.string X] ++ VL.drop (k * 1)).length → (w7.cell? ⟨gg, 0 + k * 1 + j, none⟩).isSome = true ∧ w7.frozen? ⟨gg, 0 + k * 1 + j, none⟩ = false) := hid (fun j hj => by
                    rw [HN1.out] at hj
                    refine ⟨?_, ?_⟩
                    · have hjs : 0 + k * 1 + j < cur.size := by rw [hcs]; omega
                      rw [Lib.cell_of_heap HG7.out, Array.getElem?_eq_getElem hjs]; rfl
                    · simp [World.frozen?, HG7.out])
                  have HR : Hid (k + (1 + (n - k)) ≤ co) := hid (by omega)
                  have HFIN : Hid (AtQ w.heap.size 9 1 w (w7.setCells gg (k * 1) ([Value.string X] ++ VL.drop (k * 1))) (.slice (some ⟨gg, 0, none⟩) (k + (1 + (n - k))) co) (k + (1 + (n - k))) (VL.take (k * 1) ++ ([Value.string X] ++ VL.drop (k * 1)))) := hid ⟨row_putG HOG7.out hk HN1.out (by omega) HR.out, (HBQ.out.trans (HB7.out.mono hsz)).trans (below_cellsQ hgB _ _ _)⟩
                  have hiz : (k : Int) ≤ (n : Int) := by omega
                  have hkc : (k : Int) ≤ (co : Int) := by omega
                  have h0z : (0 : Int) ≤ (k : Int) := by omega
                  clear hroom
                  go_upto_region 10 with fail
                  go_region_law (first
                    | (refine step_append_run (by rfl) _ _ 40 (by rfl) (.slice (some ⟨wq.heap.size, 0, none⟩) 1 1) (.slice (if co = k then some (⟨gg, 0, none⟩ : Addr) else some ⟨gg, k, none⟩) (n - k) (co - k)) (.slice (some ⟨g7, 0, none⟩) (1 + (n - k)) cap7) w7 (by rfl) (by rfl) HRUN.out ?_)
                    | (refine step_append_room (by rfl) _ _ 40 (by rfl) 9 i9 1 Tryz.underlying40 hi9 hsi9 gg 0 k co (by rfl) ⟨g7, 0, none⟩ (1 + (n - k)) cap7 ([Value.string X] ++ VL.drop (k * 1)) (by rfl) HN1.out HN2.out HN3.out HR.out HSP.out ?_))
                  all_goals
                    go_wp2_with fail
                    go_roundw
                    case rel => exact ⟨i + 1, k + (1 + (n - k)), _, some ⟨gg, 0, none⟩, co, rfl, by go_num, by omega, by omega, hid (by rw [hln.out]), hid hnew.out, by rw [hvals.out]; simpa using HFIN⟩
                    case measure => simp [RowKit.intOf]; omega
                · have HF : Hid (co < k + (1 + (n - k))) := hid (by omega)
                  have HM1 : Hid (k + (1 + (n - k)) ≤ maxLen) := hid (by unfold maxLen; omega)
                  have HM2 : Hid ((k + (1 + (n - k))) * 16 ≤ 140737488355328) := hid (by omega)
                  have HO2 : Hid (∀ b', some (⟨gg, 0, none⟩ : Addr) = some b' → ∀ j u, (VL.take (k * 1))[j]? = some u → w7.cell? (b'.add j) = some u) := hid (fun b' e j u hj => by
                    injection e with e
                    subst e
                    rw [List.getElem?_take] at hj
                    split at hj
                    · exact World.ownsRow.cells HOG7.out (g := gg) rfl j u hj
                    · cases hj)
                  have hiz : (k : Int) ≤ (n : Int) := by omega
                  have hkc : (k : Int) ≤ (co : Int) := by omega
                  have h0z : (0 : Int) ≤ (k : Int) := by omega
                  clear hroom
                  go_upto_region 10 with fail
                  go_region_law (first
                    | (refine step_append_run (by rfl) _ _ 40 (by rfl) (.slice (some ⟨wq.heap.size, 0, none⟩) 1 1) (.slice (if co = k then some (⟨gg, 0, none⟩ : Addr) else some ⟨gg, k, none⟩) (n - k) (co - k)) (.slice (some ⟨g7, 0, none⟩) (1 + (n - k)) cap7) w7 (by rfl) (by rfl) HRUN.out ?_)
                    | (refine step_append_grows (by rfl) _ _ 40 (by rfl) 9 i9 (.string ⟨#[]⟩) 1 16 Tryz.underlying40 hi9 hz9 hsi9 hby9 rfl (by decide) (some ⟨gg, 0, none⟩) k co (VL.take (k * 1)) (by rfl) (fun h => by cases h) hvt.out HO2.out ⟨g7, 0, none⟩ (1 + (n - k)) cap7 ([Value.string X] ++ VL.drop (k * 1)) (by rfl) HN1.out HN2.out HN3.out HF.out HM1.out HM2.out ?_
                       intro v8 w8 hown8 hgrow8
                       obtain ⟨g8, cap8, rfl⟩ := row_some hown8 (by omega)
                       have HFIN : Hid (AtQ w.heap.size 9 1 w w8 (.slice (some ⟨g8, 0, none⟩) (k + (1 + (n - k))) cap8) (k + (1 + (n - k))) (VL.take (k * 1) ++ ([Value.string X] ++ VL.drop (k * 1)))) := hid ⟨rowLow hown8 (Nat.le_trans hsz HB7.out.size), (HBQ.out.trans (HB7.out.mono hsz)).grown hgrow8 (Nat.le_trans hsz HB7.out.size) (fun j e => by cases e)⟩
                       clear hown8 hgrow8))
                  all_goals
                    go_wp2_with fail
                    go_roundw
                    case rel => exact ⟨i + 1, k + (1 + (n - k)), _, some ⟨g8, 0, none⟩, cap8, rfl, by go_num, by omega, by omega, hid (by rw [hln.out]), hid hnew.out, by rw [hvals.out]; exact HFIN⟩
                    case measure => simp [RowKit.intOf]; omega
    · have hltz : ¬ (i : Int) < (l.length : Int) := by omega
      have HEND : Hid (S3.StrRow wr w.heap.size (.slice Ao n co) (studM l)) := hid (by
        have h1 := hso.out
        rw [List.take_of_length_le (by omega)] at h1
        have e : L = studM l := studM_unique h1.1 h1.2
        rw [← e]
        unfold S3.StrRow
        rw [hLn.out]
        exact hA.out.1)
      have HB := hid hA.out.2
      clear hA hso
      go_wp2
      go_ret
      exact ⟨⟨_, rfl, HEND.out⟩, HB.out⟩
end Go.Proofs.YtlgmanbilaminaaGreatDoor.S12
