/-
  The program's List: its walk. Conditions: the library's variables hold what its text lays; the string has fewer than 2^32 - 15 bytes.
-/
import Derived.Test.YtldnbneblpebiaaGreatDoorList
set_option linter.unusedVariables false
namespace Go.Proofs.YtldnbneblpebiaaGreatDoor
open Go Go.Proofs Go.RowKit Go.Lib
attribute [local go_sem] Oper.semAt_some

/-- What List hands back. -/
def ListOut (r : List Str × Int) (w : World) (e : Ending) (w' : World) : Prop := (∃ v, e = .returned (.tuple #[v, .int .i64 r.2]) ∧ StrRow w' w.heap.size v r.1) ∧ Below w.heap.size w w'

theorem Boxed.under {W W2 : World} {B : Nat} {t : TypeId} {v : Value} (h : Boxed W B t v) (hb : Below W.heap.size W W2) : Boxed W2 B t v := (hb.block _ h.lt).trans h
theorem keeps_below {W W2 : World} (hb : Below W.heap.size W W2) : KeepsOthers W W2 := ⟨hb.size, fun k o hk _ => (hb.block k (Array.getElem?_eq_some_iff.1 hk).1).trans hk⟩
/-- A round has gone on. -/
theorem LInv.step {N : Nat} {w : World} {pre : List Str} {r : ByteArray} {W W2 w3 : World} {v v' : Value} {L L' : List Str} {x : Str} (h : LInv N w (pre, r) W) (hN : N ≤ w.heap.size) (hb : Below W.heap.size W W2) (hv : Boxed W (N + 2) 34 v)
    (hrow2 : StrRow W2 (N + 6) v L) (hg : W2.grownBy w3 v.ownBlock) (hown : StrRow w3 (N + 6) v' L') (hx : listGo (pre ++ [x]) [] = (L', 0)) (hl : L'.length ≤ 64) (B0 : Nat) :
    LInv N w (pre ++ [x], r) (w3.setCell ⟨N + 2, 0, none⟩ v') ∧ KeepsFrom B0 W (w3.setCell ⟨N + 2, 0, none⟩ v') := by
  have hs := h.below.size
  have hlt := hrow2.lt
  have hlt' := hown.lt
  have hne : ∀ B, B < N + 6 → some B ≠ v.ownBlock := fun B hB e => by have := hlt B e.symm; omega
  have hg2 := grownBy_setCell' w3 (N + 2) v'
  have hne2 : ∀ B, B ≠ N + 2 → some B ≠ some (N + 2) := fun B hB e => hB (by injection e)
  have up : ∀ {B : Nat} {t : TypeId} {u : Value}, Boxed W B t u → B < N + 6 → B ≠ N + 2 → Boxed (w3.setCell ⟨N + 2, 0, none⟩ v') B t u := fun hu h6 h2 => ((Boxed.under hu hb).kept hg (hne _ h6)).kept hg2 (hne2 _ h2)
  have hv3 : Boxed w3 (N + 2) 34 v := (Boxed.under hv hb).kept hg (hne _ (by omega))
  have hsz := h.size
  have hb3 : Below N w (w3.setCell ⟨N + 2, 0, none⟩ v') := ((h.below.trans (hb.mono (by omega))).grown hg (by have := hb.size; omega) (fun k hk => by have := hlt k hk; omega)).grown hg2 (by have := hb.size; have := hg.size; omega) (fun k e => by injection e; omega)
  refine ⟨⟨hb3, ?_, up h.r1 (by omega) (by omega), up h.r2 (by omega) (by omega), up h.v1 (by omega) (by omega), up h.v2 (by omega) (by omega), up h.v3 (by omega) (by omega), ⟨v', hv3.set v', ?_⟩, by rw [hx], by rw [hx]; exact hl⟩, ?_⟩
  · have := hb.size; have := hg.size; have := hg2.size; omega
  · rw [hx]
    exact World.ownsRow.kept hown hg2 (.inr fun e => by have := hlt' _ e; omega)
  · refine (((keeps_below hb).trans (KeepsOthers.of_grownBy hg fun j o ej hj => ?_)).trans (KeepsOthers.setCell _ _ _)).from _
    obtain ⟨c, hc⟩ := row_kind9 hrow2 j ej
    rw [hc] at hj
    cases hj
    rfl

theorem box_at {W : World} {n : Nat} (h : W.heap.size = n) (t : TypeId) (v : Value) : Boxed (W.alloc (.cells #[v] t)) n t v := by subst h; exact Boxed.new W t v
/-- Both results stored, the mark taken. -/
theorem list_end {N D : Nat} {W : World} {u0 u1 v e : Value} (h1 : Boxed W N 34 u0) (h2 : Boxed W (N + 1) 31 u1) (hD : N + 6 ≤ D) (hK : W.heap[D]? = some (.deferred (some []))) :
    ((W.setCell ⟨N, 0, none⟩ v).setCell ⟨N + 1, 0, none⟩ e).heap[D]? = some (.deferred (some [])) ∧
    Boxed (((W.setCell ⟨N, 0, none⟩ v).setCell ⟨N + 1, 0, none⟩ e).putObj D (.deferred none)) N 34 v ∧ Boxed (((W.setCell ⟨N, 0, none⟩ v).setCell ⟨N + 1, 0, none⟩ e).putObj D (.deferred none)) (N + 1) 31 e ∧
    Below N W (((W.setCell ⟨N, 0, none⟩ v).setCell ⟨N + 1, 0, none⟩ e).putObj D (.deferred none)) ∧
    (∀ u n xs, W.ownsRow (N + 6) 9 1 u n xs → (((W.setCell ⟨N, 0, none⟩ v).setCell ⟨N + 1, 0, none⟩ e).putObj D (.deferred none)).ownsRow (N + 6) 9 1 u n xs) := by
  have hg1 := grownBy_setCell' W N v
  have hg2 := grownBy_setCell' (W.setCell ⟨N, 0, none⟩ v) (N + 1) e
  have hg3 := grownBy_putObj' ((W.setCell ⟨N, 0, none⟩ v).setCell ⟨N + 1, 0, none⟩ e) D (.deferred none)
  have hne : ∀ a b : Nat, a ≠ b → some a ≠ some b := fun a b h e => h (by injection e)
  have hlt := h2.lt
  have k0 : ((W.setCell ⟨N, 0, none⟩ v).setCell ⟨N + 1, 0, none⟩ e).heap[D]? = some (.deferred (some [])) := (KeepsOthers.setCell _ _ _).same D _ ((KeepsOthers.setCell W _ _).same D _ hK rfl) rfl
  refine ⟨k0, ((h1.set v).kept hg2 (hne _ _ (by omega))).kept hg3 (hne _ _ (by omega)), ((h2.kept hg1 (hne _ _ (by omega))).set e).kept hg3 (hne _ _ (by omega)), ?_, ?_⟩
  · exact (((Below.refl N W).grown hg1 (by omega) (fun k e => by injection e; omega)).grown hg2 (by have := hg1.size; omega) (fun k e => by injection e; omega)).grown hg3 (by have := hg1.size; have := hg2.size; omega) (fun k e => by injection e; omega)
  · intro u n xs h
    have := h.lt
    exact ownsRow_putObj (World.ownsRow.kept (World.ownsRow.kept h hg1 (.inr fun e => by have := this _ e; omega)) hg2 (.inr fun e => by have := this _ e; omega)) _ k0 rfl

set_option maxHeartbeats 8000000 in
set_option maxRecDepth 100000 in
theorem list_any (s : ByteArray) (hs : s.size < 4294967281) (w : World) (hE : Env w) : Calls Tryz.prog 20 #[.string s] w (ListOut (listM (lst s)) w) := by
  refine (callsIn_wide (n := 9)).1 ?_
  refine callsIn_of_wp_marks Tryz.func20 rfl trivial ?_ rfl
  simp only [Tryz.ntmps20, List.size_toArray, List.length_cons, List.length_nil, Nat.reduceAdd, Nat.reduceSub, Array.replicate_succ, Array.replicate_zero, List.push_toArray, List.append_toArray, List.nil_append, List.cons_append]
  by_cases h0 : 0 < s.size
  · obtain ⟨x1, x2, x3, x4⟩ := str_no h0
    have hne := lst_ne h0
    gi_wp2_with fail
    refine ⟨trivial, ?_⟩
    refine (callsIn_wide.2 (splitSeq_any s _)).mono ?_
    rintro e w' ⟨rfl, rfl⟩
    gi_wp2
    obtain ⟨W0, hW0⟩ : ∃ W0, ((((((w.alloc (Obj.cells #[Value.slice none 0 0] 34)).alloc (Obj.cells #[Value.int IntKind.i64 0] 31)).alloc (Obj.cells #[Value.slice none 0 0] 34)).alloc (Obj.cells #[Value.string s] 9)).alloc (Obj.cells #[Value.string { data := #[59] }] 9)).alloc (Obj.cells #[Value.int IntKind.i64 0] 3)) = W0 := ⟨_, rfl⟩
    rw [hW0]
    have hI0 : LInv w.heap.size w ([], s) W0 := by
      rw [← hW0]
      exact ⟨((((((Below.refl _ w).alloc (Nat.le_refl _) _).alloc (by simp) _).alloc (by simp; omega) _).alloc (by simp; omega) _).alloc (by simp; omega) _).alloc (by simp; omega) _, by simp,
        (((((box_at rfl 34 _).alloc _).alloc _).alloc _).alloc _).alloc _, ((((box_at (by simp) 31 _).alloc _).alloc _).alloc _).alloc _, ((box_at (by simp) 9 _).alloc _).alloc _, (box_at (by simp) 9 _).alloc _, box_at (by simp) 3 _,
        ⟨.slice none 0 0, (((box_at (by simp) 34 _).alloc _).alloc _).alloc _, World.ownsRow_nil _ _ _ _⟩, rfl, by simp [listGo]⟩
    have hz0 : w.heap.size + 6 ≤ W0.heap.size := hI0.size
    have hEv := hE.size
    clear hW0
    refine range_own (by omega) (gf := 70) (lb := #[.pointer (some ⟨w.heap.size + 3 + 1, 0, none⟩), .pointer (some ⟨w.heap.size + 3, 0, none⟩), .pointer (some ⟨w.heap.size + 3 + 2, 0, none⟩)]) rfl (enters_of Tryz.func70 (by kernel_rfl) rfl) (w.heap.size + 3) (by omega)
      (fun st x => ∃ rest, splitL (lst s) = st.1 ++ lst x :: rest) (fun st x => (st.1 ++ [lst x], st.2)) (fun st => st.1 = splitL (lst s)) (LInv w.heap.size w) (LErr w.heap.size w (lst s)) ([], s)
      (split_iter _ (w.heap.size + 3) s (by omega) _ (fun st W h => h.vars) (fun st r W h => h.turn (Nat.le_refl _) r)) rfl (LInv.own (Nat.le_refl _) hz0) (LErr.own (Nat.le_refl _) hz0) hI0
      (fun x => { tmps := #[.string s, undef, .pointer (some ⟨w.heap.size, 0, none⟩), .pointer (some ⟨w.heap.size + 1, 0, none⟩), .pointer (some ⟨w.heap.size + 1 + 1, 0, none⟩), .string x, undef, undef, undef, .string s, .bool false, .string s,
        .func (.func 70) #[] #[.pointer (some ⟨w.heap.size + 1 + 1 + 1 + 1, 0, none⟩), .pointer (some ⟨w.heap.size + 1 + 1 + 1, 0, none⟩), .pointer (some ⟨w.heap.size + 1 + 1 + 1 + 2, 0, none⟩)],
        .string x, undef, undef, undef, undef, undef, undef, undef, undef, undef, undef, undef, undef, undef, undef, undef, undef, undef, undef, undef, undef], defers := [] }) ?assign ?body ?done ?stop
    case assign =>
      intro l x W K hK
      gi_wp2
      exact hK
    case body =>
      rintro l ⟨pre, r⟩ x W hI ⟨rest, hrest⟩
      obtain ⟨v, hv, hrow⟩ := hI.acc
      have hok := hI.ok
      have h64 := hI.len
      dsimp only at hrow hok h64 hrest ⊢
      obtain ⟨A, c, hvA, hc1, hc2, hin⟩ := hrow.strsIn
      subst hvA
      have hxs : x.size < 4294967281 := by
        have := splitL_mem (lst s) (lst x) (by rw [hrest]; simp)
        rw [show (lst x).length = x.size from (Lib.size_eq x).symm, show (lst s).length = s.size from (Lib.size_eq s).symm] at this
        omega
      obtain ⟨L, hL⟩ : ∃ L, (listGo pre []).1 = L := ⟨_, rfl⟩
      have hgo : ∀ qs, listGo (pre ++ qs) [] = listGo qs L := fun qs => by rw [listGo_app _ _ _ hok, hL]
      rw [hL] at hrow hc1 hin hv h64
      have hB := hI.below
      have hEW : Env W := env_grown hE hI.below hEv
      have cP := readPart_any x (64 - (L.length : Int)) hxs (by omega) W hEW
      obtain ⟨⟨l2, e2⟩, hR⟩ : ∃ R, partM (lst x) (64 - (L.length : Int)) = R := ⟨_, rfl⟩
      rw [hR] at cP
      have hcell := hv.cell
      have HRow := hid hrow
      have HIn := hid hin
      have HGo := hid hgo
      have HOk := hid hok
      clear hrow hin hgo hL hok hEW
      by_cases h2 : e2 = 0
      · subst h2
        have hpo := partM_ok (lst x) (64 - (L.length : Int)) (by rw [hR])
        rw [hR] at hpo
        obtain ⟨hp1, hp2⟩ := hpo
        dsimp only at hp1 hp2
        gi_wp2_with fail
        refine ⟨trivial, ?_⟩
        refine (CallsIn.inRound l (callsIn_wide.2 cP)).mono ?_
        rintro e W2 ⟨⟨v2, rfl, hrow2⟩, hb2⟩
        obtain ⟨m, hm⟩ : ∃ m, l2.length = m + 1 := ⟨l2.length - 1, by omega⟩
        have hq := hrow2
        unfold StrRow at hq
        dsimp only at hq
        rw [hm] at hq
        obtain ⟨g, cap, rfl⟩ := ownsRow_succ hq
        have hv2 := Boxed.under hv hb2
        have hcell2 := hv2.cell
        have hrowW2 : StrRow W2 (w.heap.size + 6) (.slice A L.length c) L := row_under HRow.out hb2
        have hcs : ∀ j u, (strVals l2)[j]? = some u → W2.cell? ((⟨g, 0, none⟩ : Addr).add j) = some u := World.ownsRow.cells hq rfl
        have hone : ∀ u ∈ strVals l2, u.oneCell' = true := by
          intro u hu
          obtain ⟨a, _, rfl⟩ := List.mem_map.1 hu
          rfl
        have hsz6 : w.heap.size + 6 ≤ W2.heap.size := by have := hI.size; have := hb2.size; omega
        have hnl : (strVals l2).length = (m + 1) * 1 := by rw [strVals_len, hm]; omega
        have hmx : L.length + (m + 1) ≤ maxLen := by unfold maxLen; omega
        have hby : (L.length + (m + 1)) * 16 ≤ 140737488355328 := by omega
        obtain ⟨i9, hi9, hz9, hsi9, hby9⟩ := info_parts infoStr
        have HRow2 := hid hrowW2
        have HCs := hid hcs
        have HOne := hid hone
        have HQ := hid hq
        have HNl := hid hnl
        have HMx := hid hmx
        have HBy := hid hby
        have H6 := hid hsz6
        clear hrow2 hq hrowW2 hcs hone hnl hmx hby hsz6
        gi_wp2_with (gi_at_builtin; refine wpListIn_append_own _ rfl _ _ 34 rfl (w.heap.size + 6) 9 i9 (.string ⟨#[]⟩) 1 16 Tryz.underlying34 hi9 hz9 hsi9 hby9 rfl (by decide) _ L.length (strVals L) rfl HRow2.out ⟨g, 0, none⟩ (m + 1) cap (strVals l2) rfl HNl.out HCs.out HOne.out HMx.out HBy.out H6.out ?_)
        intro v' w3 hown' hgrow _
        obtain ⟨g', cap', rfl⟩ := ownsRow_succ (k := L.length + m) hown'
        have hv3 : Boxed w3 (w.heap.size + 2) 34 (.slice A L.length c) := hv2.kept hgrow (fun e => by have := HRow2.out.lt _ e.symm; omega)
        have hcell3 := hv3.cell
        have hfz3 := hv3.frozen
        have hown2 : StrRow w3 (w.heap.size + 6) (.slice (some ⟨g', 0, none⟩) (L.length + m + 1) cap') (L ++ l2) := by
          unfold StrRow
          rw [strVals_app, List.length_append, hm]
          exact hown'
        gi_wp2
        obtain ⟨i1, i2⟩ := LInv.step hI (Nat.le_refl _) hb2 hv HRow2.out hgrow hown2 (x := lst x) (by rw [HGo.out]; simp [listGo, hR]) (by simp; omega) W0.heap.size
        exact ⟨i2, i1⟩
      · have hgo2 : listGo (splitL (lst s)) [] = ([], e2) := by rw [hrest, HGo.out]; simp [listGo, hR, h2]
        have HGo2 := hid hgo2
        clear hgo2
        gi_wp2_with fail
        refine ⟨trivial, ?_⟩
        refine (CallsIn.inRound l (callsIn_wide.2 cP)).mono ?_
        rintro e W2 ⟨⟨v2, rfl, hrow2⟩, hb2⟩
        clear hrow2
        have k1 := Boxed.under hI.r1 hb2
        have k2 := Boxed.under hI.r2 hb2
        have f1 := k1.frozen
        have f2 := k2.frozen
        have g1 := k1.cell
        have g2 := k2.cell
        gi_wp2
        have q1 := grownBy_setCell' W2 w.heap.size (.slice none 0 0)
        have q2 := grownBy_setCell' (W2.setCell ⟨w.heap.size, 0, none⟩ (.slice none 0 0)) (w.heap.size + 1) (.int .i64 e2)
        have hne' : ∀ a b : Nat, a ≠ b → some a ≠ some b := fun a b h e => h (by injection e)
        refine ⟨(((keeps_below hb2).trans (KeepsOthers.setCell _ _ _)).trans (KeepsOthers.setCell _ _ _)).from _, ⟨?_, e2, by rw [HGo2.out], h2, (k1.set _).kept q2 (hne' _ _ (by omega)), (k2.kept q1 (hne' _ _ (by omega))).set _⟩⟩
        have hz2 := hb2.size
        have hzW := hI.size
        exact ((hB.trans (hb2.mono (by omega))).grown q1 (by omega) (fun k e => by injection e; omega)).grown q2 (by have := q1.size; omega) (fun k e => by injection e; omega)
    case done =>
      rintro D ⟨pre, r⟩ W hD hfin hI hK
      obtain ⟨v, hv, hrow⟩ := hI.acc
      have hok := hI.ok
      have h64 := hI.len
      dsimp only at hfin hrow hok h64
      rw [hfin] at hrow hok h64
      obtain ⟨A, c, hvA, hc1, hc2, hin⟩ := hrow.strsIn
      subst hvA
      have hM : listM (lst s) = if checkM (listGo (splitL (lst s)) []).1 ≠ 0 then ([], checkM (listGo (splitL (lst s)) []).1) else ((listGo (splitL (lst s)) []).1, 0) := by
        unfold listM
        rw [if_neg hne, if_neg (by rw [hok]; simp)]
      obtain ⟨L, hL⟩ : ∃ L, (listGo (splitL (lst s)) []).1 = L := ⟨_, rfl⟩
      rw [hL] at hM hrow hc1 hin hv h64
      have cC := check_any A L c _ W hin hc1 hc2
      have hcell := hv.cell
      have f1 := hI.r1.frozen
      have f2 := hI.r2.frozen
      have g1 := hI.r1.cell
      have g2 := hI.r2.cell
      have hBelow := hI.below
      by_cases hk : checkM L = 0
      · rw [if_neg (by simpa using hk)] at hM
        rw [hk] at cC
        gi_wp2_with fail
        refine ⟨trivial, ?_⟩
        refine (callsIn_wide.2 cC).mono ?_
        rintro e w' ⟨rfl, rfl⟩
        gi_wp2
        obtain ⟨k0, k1, k2, k3, k4⟩ := list_end (v := .slice A L.length c) (e := .int .i64 0) hI.r1 hI.r2 (D := D) (by omega) hK
        refine ⟨by simp, .inl ⟨_, _, rfl, run_takeDeferred k0, ?_⟩⟩
        refine ⟨_, results_cc rfl _ _ _ _ _ _ _ rfl rfl (load34 k1.cell) (load31 k2.cell), ?_⟩
        rw [hM]
        exact ⟨⟨_, rfl, StrRow.mono (k4 _ _ _ hrow) (by omega)⟩, hBelow.trans k3⟩
      · rw [if_pos hk] at hM
        obtain ⟨e0, he0⟩ : ∃ e0, checkM L = e0 := ⟨_, rfl⟩
        rw [he0] at cC hM hk
        gi_wp2_with fail
        refine ⟨trivial, ?_⟩
        refine (callsIn_wide.2 cC).mono ?_
        rintro e w' ⟨rfl, rfl⟩
        gi_wp2
        obtain ⟨k0, k1, k2, k3, k4⟩ := list_end (v := .slice none 0 0) (e := .int .i64 e0) hI.r1 hI.r2 (D := D) (by omega) hK
        refine ⟨by simp, .inl ⟨_, _, rfl, run_takeDeferred k0, ?_⟩⟩
        refine ⟨_, results_cc rfl _ _ _ _ _ _ _ rfl rfl (load34 k1.cell) (load31 k2.cell), ?_⟩
        rw [hM]
        exact ⟨⟨_, rfl, World.ownsRow_nil _ _ _ _⟩, hBelow.trans k3⟩
    case stop =>
      rintro D W hD ⟨hb, e, he, hne0, h1, h2⟩ hK
      have hM : listM (lst s) = ([], e) := by
        unfold listM
        rw [if_neg hne, if_pos (by rw [he]; exact hne0), he]
      have hg3 := grownBy_putObj' W D (.deferred none)
      have hne' : ∀ a b : Nat, a ≠ b → some a ≠ some b := fun a b h e => h (by injection e)
      gi_wp2
      refine ⟨by simp, .inl ⟨_, _, rfl, run_takeDeferred hK, ?_⟩⟩
      refine ⟨_, results_cc rfl _ _ _ _ _ _ _ rfl rfl (load34 (h1.kept hg3 (hne' _ _ (by omega))).cell) (load31 (h2.kept hg3 (hne' _ _ (by omega))).cell), ?_⟩
      rw [hM]
      exact ⟨⟨_, rfl, World.ownsRow_nil _ _ _ _⟩, hb.grown hg3 hb.size (fun k e => by injection e; omega)⟩
  · obtain ⟨x1, x2, x3, x4⟩ := str_yes h0
    have hnil := lst_nil h0
    have hM : listM (lst s) = ([], 0) := by rw [hnil]; rfl
    gi_wp2
    refine ⟨_, results_cc rfl _ _ _ _ _ _ _ rfl rfl (load34 (x := .slice none 0 0) ?_) (load31 (x := .int .i64 0) ?_), ?_⟩
    · simp
    · simp
    · rw [hM]
      exact ⟨⟨_, rfl, World.ownsRow_nil _ _ _ _⟩, ((Below.refl _ w).alloc (Nat.le_refl _) _).alloc (by simp) _⟩

end Go.Proofs.YtldnbneblpebiaaGreatDoor
