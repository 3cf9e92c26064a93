/-
  Reading a field that is a code, or a list of codes in any order. Conditions: the variables hold what their text lays; the text is below 2^32 bytes.
  Reading starts, part by part: ReadParts at starts. Conditions: the text is below 2^32 bytes; what the closure does with a part, in every world that the call passes through.
-/
import Derived.Test.YtigdcgklpapfbaaGreatDoorVR20
import Derived.Test.YtigdcgklpapfbaaGreatDoorVR34
set_option linter.unusedVariables false
namespace Go.Proofs.YtigdcgklpapfbaaGreatDoor.S10
open Go Go.Proofs Go.RowKit Go.Lib Go.Proofs.YtigdcgklpapfbaaGreatDoor

set_option maxHeartbeats 2000000 in
theorem ccode_any (s : ByteArray) (w : World) : Calls Tryz.prog 84 #[.string s] w fun e w' => e = .returned (.tuple #[.string (if S3.validC (lst s) = true then s else ⟨#[]⟩), .int .i64 (if S3.validC (lst s) = true then 0 else 10)]) ∧ w' = w := by
  have cV := fun w => S3.valid_any s w
  cases hv : S3.validC (lst s) with
  | false =>
    rw [show s.data.toList = lst s from rfl, hv] at cV
    rw [if_neg (by simp), if_neg (by simp)]
    clear hv
    go_enter Tryz.func84, Tryz.ntmps84
    go_wp2_with fail
    refine (cV _).mono ?_
    rintro e w' ⟨rfl, rfl⟩
    go_wp2
    go_ret2
    exact ⟨rfl, rfl⟩
  | true =>
    rw [show s.data.toList = lst s from rfl, hv] at cV
    rw [if_pos rfl, if_pos rfl]
    clear hv
    go_enter Tryz.func84, Tryz.ntmps84
    go_wp2_with fail
    refine (cV _).mono ?_
    rintro e w' ⟨rfl, rfl⟩
    go_wp2
    go_ret2
    exact ⟨rfl, rfl⟩

/-- Sort of a slice of strings of the call's own. -/
theorem sortRow (v : Value) (l : List Str) (B : Nat) (w : World) (h : S3.StrRow w B v l) (hB : B ≤ w.heap.size) (hl : l.length ≤ 1000) :
    Calls Tryz.prog 123 #[v] w fun e w' => e = .returned (.tuple #[]) ∧ S3.StrRow w' B v (sortS l) ∧ Below B w w' := by
  have h' := h
  rcases h.2 with ⟨hv, h0⟩ | ⟨g, cap, cur, hv, hg0, hg, h1, h2, h3, h4⟩
  · have hl : l = [] := List.eq_nil_of_length_eq_zero h0
    subst hl
    subst hv
    refine (Any.slices_Sort_string_none Tryz.lays190 none 0 w).mono ?_
    rintro e w' ⟨rfl, rfl⟩
    exact ⟨rfl, by rw [show sortS [] = [] by simp [sortS]]; exact h', Below.refl _ _⟩
  · subst hv
    have hlt := (Array.getElem?_eq_some_iff.1 hg).1
    have hH := holds_of_block (ss := l) hg (by have h5 := h4; rw [Nat.mul_one] at h5; exact h5)
    refine (Any.slices_Sort_string Tryz.lays190 g 0 cap l w hH hlt (by omega)).mono ?_
    rintro e w' ⟨rfl, n, os, rfl⟩
    refine ⟨rfl, ?_, (Below.refl _ w).grown (grownBy_sorted _) hB (fun k hk => by injection hk; omega)⟩
    have := ownsRow_sorted (n := n) (os := os) (ts := sortS l) (sortS_len l) hg0 hg h1 h2 h3
    unfold S3.StrRow
    rw [sortS_len]
    exact this

set_option maxHeartbeats 4000000 in
set_option maxRecDepth 100000 in
theorem creadCodes_any (s : ByteArray) (hs : s.size < 4294967281) (w : World) (hE : S3.Env w) : Calls Tryz.prog 88 #[.string s] w (S3.ListOut (featsM (lst s)) w) := by
  have cL := hid (S3.list_any s hs w hE)
  unfold S3.ListOut featsM
  have cL' := cL.out
  unfold S3.ListOut at cL'
  rw [show S3.lst s = lst s from rfl] at cL'
  obtain ⟨⟨l, e0⟩, hR⟩ : ∃ R, S3.listM (lst s) = R := ⟨_, rfl⟩
  rw [hR] at cL' ⊢
  dsimp only at cL' ⊢
  have CL := hid cL'
  clear cL cL' hR hE
  by_cases h0 : e0 = 0
  · subst h0
    rw [if_neg (by simp)]
    by_cases h8 : 8 < l.length
    · rw [if_pos h8]
      have h8z : (8 : Int) < (l.length : Int) := by omega
      go_enter Tryz.func88, Tryz.ntmps88
      go_wp2_with fail
      refine CL.out.mono ?_
      rintro e w1 ⟨⟨v, rfl, hrow⟩, hb⟩
      obtain ⟨A, c, rfl, _⟩ := hrow.strsIn
      have HB := hid hb
      clear hb hrow
      go_wp2
      go_ret2
      exact ⟨⟨_, rfl, World.ownsRow_nil _ _ _ _⟩, HB.out⟩
    · rw [if_neg h8]
      have h8z : ¬ (8 : Int) < (l.length : Int) := by omega
      go_enter Tryz.func88, Tryz.ntmps88
      go_wp2_with fail
      refine CL.out.mono ?_
      rintro e w1 ⟨⟨v, rfl, hrow⟩, hb⟩
      have cS := sortRow v l w.heap.size w1 hrow hb.size (by omega)
      obtain ⟨A, c, rfl, _⟩ := hrow.strsIn
      have CS := hid cS
      have HB := hid hb
      clear hb hrow cS
      go_wp2_with fail
      refine CS.out.mono ?_
      rintro e w2 ⟨rfl, hrow2, hb2⟩
      have HR2 := hid hrow2
      have HB2 := hid (HB.out.trans hb2)
      clear hrow2 hb2
      go_wp2
      go_ret2
      exact ⟨⟨_, rfl, HR2.out⟩, HB2.out⟩
  · rw [if_pos h0]
    have e1 : (e0 != 0) = true := by simpa using h0
    have e2 : (e0 == 0) = false := by simpa using h0
    go_enter Tryz.func88, Tryz.ntmps88
    go_wp2_with fail
    refine CL.out.mono ?_
    rintro e w1 ⟨⟨v, rfl, hrow⟩, hb⟩
    have HB := hid hb
    clear hb hrow
    go_wp2
    go_ret2
    exact ⟨⟨_, rfl, World.ownsRow_nil _ _ _ _⟩, HB.out⟩
end Go.Proofs.YtigdcgklpapfbaaGreatDoor.S10

set_option linter.unusedVariables false
namespace Go.Proofs.YtigdcgklpapfbaaGreatDoor.S10
open Go Go.Proofs Go.RowKit Go.Lib Go.Proofs.YtigdcgklpapfbaaGreatDoor
attribute [local go_sem] Oper.semAt_some
theorem loadStarts {w : World} {k : Nat} {x : Value} (h0 : w.cell? ⟨k, 0, none⟩ = some x) : (loadVar 31 ⟨k, 0, none⟩).run Tryz.prog w = .ok x w := by
  simp [loadVar, go_sem, h0]

set_option maxHeartbeats 8000000 in
set_option maxRecDepth 100000 in
/-- ReadParts at starts. -/
theorem readPartsS_any (d s b m len : Int) (K G : Nat) (x : ByteArray) (hs : x.size < 4294967281) (w : World)
    (hF : ∀ (y : ByteArray) (W : World), y.size < 4294967281 → Below w.heap.size w W → Calls Tryz.prog 124 (#[.string y] ++ #[.pointer (some ⟨K, 0, none⟩), .pointer (some ⟨G, 0, none⟩)]) W fun e w' => (∃ r, r = (startM d s b m len) (lst y) ∧ e = .returned (.tuple #[.agg #[.int .i64 r.1.1, .int .i64 r.1.2], .int .i64 r.2])) ∧ Below W.heap.size W w') :
    Calls Tryz.prog 126 #[.string x, .string ⟨#[59]⟩, .int .i64 24, (.func (.func 124) #[] #[.pointer (some ⟨K, 0, none⟩), .pointer (some ⟨G, 0, none⟩)])] w fun e w' => (∃ v, e = .returned (.tuple #[v, .int .i64 (partsM (startM d s b m len) 59 24 (lst x)).2]) ∧ w'.ownsRow w.heap.size 74 2 v (partsM (startM d s b m len) 59 24 (lst x)).1.length (startVals (partsM (startM d s b m len) 59 24 (lst x)).1)) ∧ Below w.heap.size w w' := by
  have eg : ∀ args w, (callFunc 124 args).run Tryz.prog w = .ok (.enter 124 args) w := enters_of Tryz.func124 (by kernel_rfl) rfl
  obtain ⟨i9, hi9, hz9, hsi9, hby9⟩ := info_parts infoStart
  refine (callsIn_wide (n := 9)).1 ?_
  refine callsIn_of_wp_marks Tryz.func126 rfl trivial ?_ rfl
  simp only [Tryz.ntmps126, List.size_toArray, List.length_cons, List.length_nil, Nat.reduceAdd, Nat.reduceSub, Array.replicate_succ, Array.replicate_zero, List.push_toArray, List.append_toArray, List.nil_append, List.cons_append]
  have HF := hid hF
  clear hF
  gi_wp2_with fail
  refine ⟨trivial, ?_⟩
  refine (callsIn_wide.2 (splitSeq_any 59 x _)).mono ?_
  rintro e w' ⟨rfl, rfl⟩
  gi_wp2
  obtain ⟨W0, hW0⟩ : ∃ W0, (((((((w.alloc (Obj.cells #[(.func (.func 124) #[] #[.pointer (some ⟨K, 0, none⟩), .pointer (some ⟨G, 0, none⟩)])] 160)).alloc (Obj.cells #[Value.slice none 0 0] 31)).alloc (Obj.cells #[Value.int IntKind.i64 0] 26)).alloc (Obj.cells #[Value.slice none 0 0] 31)).alloc (Obj.cells #[Value.string x] 9)).alloc (Obj.cells #[Value.string { data := #[59] }] 9)).alloc (Obj.cells #[Value.int IntKind.i64 0] 3)) = W0 := ⟨_, rfl⟩
  rw [hW0]
  have hI0 : PInv (startM d s b m len) startVals 31 74 2 160 59 (.func (.func 124) #[] #[.pointer (some ⟨K, 0, none⟩), .pointer (some ⟨G, 0, none⟩)]) w.heap.size w ([], x) W0 := by
    rw [← hW0]
    refine ⟨?_, by simp, ?_, ?_, ?_, ⟨.slice none 0 0, ?_, World.ownsRow_nil _ _ _ _⟩, ?_, ?_, ?_, rfl⟩
    · exact (((((((Below.refl _ w).alloc (Nat.le_refl _) _).alloc (by simp) _).alloc (by simp; omega) _).alloc (by simp; omega) _).alloc (by simp; omega) _).alloc (by simp; omega) _).alloc (by simp; omega) _
    · exact ((((((S3.box_at (by simp) 160 _).alloc _).alloc _).alloc _).alloc _).alloc _).alloc _
    · exact (((((S3.box_at (by simp) 31 _).alloc _).alloc _).alloc _).alloc _).alloc _
    · exact ((((S3.box_at (by simp) 26 _).alloc _).alloc _).alloc _).alloc _
    · exact (((S3.box_at (by simp) 31 _).alloc _).alloc _).alloc _
    · exact ((S3.box_at (by simp) 9 _).alloc _).alloc _
    · exact (S3.box_at (by simp) 9 _).alloc _
    · exact S3.box_at (by simp) 3 _
  have hz0 : w.heap.size + 7 ≤ W0.heap.size := hI0.size
  clear hW0
  refine S3.range_own (by omega) (gf := 229) (lb := #[.pointer (some ⟨w.heap.size + 4 + 1, 0, none⟩), .pointer (some ⟨w.heap.size + 4, 0, none⟩), .pointer (some ⟨w.heap.size + 4 + 2, 0, none⟩)]) rfl (enters_of Tryz.func229 (by kernel_rfl) rfl) (w.heap.size + 4) (by omega)
    (fun st y => ∃ rest, splitC 59 (lst x) = st.1 ++ lst y :: rest) (fun st y => (st.1 ++ [lst y], st.2)) (fun st => st.1 = splitC 59 (lst x)) (PInv (startM d s b m len) startVals 31 74 2 160 59 (.func (.func 124) #[] #[.pointer (some ⟨K, 0, none⟩), .pointer (some ⟨G, 0, none⟩)]) w.heap.size w) (PErr (startM d s b m len) 31 59 w.heap.size w (lst x)) ([], x)
    (split_iter 59 _ (w.heap.size + 4) x (by omega) _ (fun st W h => h.vars) (fun st r W h => h.turn (Nat.le_refl _) r)) rfl (PInv.own (Nat.le_refl _) hz0) (PErr.own (Nat.le_refl _) hz0) hI0
    (fun y => { tmps := #[.string x, .string ⟨#[59]⟩, .int .i64 24, (.func (.func 124) #[] #[.pointer (some ⟨K, 0, none⟩), .pointer (some ⟨G, 0, none⟩)]), undef, undef, undef, .pointer (some ⟨w.heap.size, 0, none⟩), .pointer (some ⟨w.heap.size + 1, 0, none⟩), .pointer (some ⟨w.heap.size + 1 + 1, 0, none⟩), .pointer (some ⟨w.heap.size + 1 + 1 + 1, 0, none⟩),
      .string y, undef, undef, .string x, .string ⟨#[59]⟩, .func (.func 229) #[] #[.pointer (some ⟨w.heap.size + 1 + 1 + 1 + 1 + 1, 0, none⟩), .pointer (some ⟨w.heap.size + 1 + 1 + 1 + 1, 0, none⟩), .pointer (some ⟨w.heap.size + 1 + 1 + 1 + 1 + 2, 0, none⟩)],
      .string y, undef, undef, undef, undef, undef, undef, undef, undef, undef, undef, undef, undef, undef, undef, undef, undef, undef, undef], defers := [] }) ?assign ?body ?done ?stop
  case assign =>
    intro l y W K hK
    gi_wp2
    exact hK
  case body =>
    rintro l ⟨pre, r⟩ y W hI ⟨rest, hrest⟩
    obtain ⟨v, hv, hrow⟩ := hI.acc
    have hok := hI.ok
    dsimp only at hrow hok hrest ⊢
    have hxs : y.size < 4294967281 := by
      have := splitC_mem 59 (lst x) (lst y) (by rw [hrest]; simp)
      rw [show (lst y).length = y.size from (Lib.size_eq y).symm, show (lst x).length = x.size from (Lib.size_eq x).symm] at this
      omega
    obtain ⟨L, hL⟩ : ∃ L, (partsGo (startM d s b m len) pre []).1 = L := ⟨_, rfl⟩
    have hgo : ∀ qs, partsGo (startM d s b m len) (pre ++ qs) [] = partsGo (startM d s b m len) qs L := fun qs => by rw [partsGo_app (startM d s b m len) _ _ _ hok, hL]
    have hlen : L.length = pre.length := by rw [← hL, partsGo_len (startM d s b m len) pre [] hok]; simp
    have hpl : pre.length ≤ 4294967281 := by
      have h1 := splitC_len 59 (lst x)
      rw [hrest, List.length_append, show (lst x).length = x.size from (Lib.size_eq x).symm] at h1
      omega
    rw [hL] at hrow
    have hB := hI.below
    have cP := HF.out y W (by omega) hB
    obtain ⟨⟨⟨t1, t2⟩, e2⟩, hR⟩ : ∃ R, (startM d s b m len) (lst y) = R := ⟨_, rfl⟩
    rw [hR] at cP
    simp only [exists_eq_left, List.append_toArray, List.cons_append, List.nil_append] at cP
    have c4 := hI.fb.cell
    obtain ⟨A, c, hvA⟩ := row_slice hrow
    subst hvA
    obtain ⟨nn, hn⟩ : ∃ nn, L.length = nn := ⟨_, rfl⟩
    rw [hn] at hrow hlen hv
    have HN0 := hid hn
    have HRow := hid hrow
    have HGo := hid hgo
    have HOk := hid hok
    have HLen := hid hlen
    have CP := hid cP
    clear hrow hgo hL hok hlen cP hn
    by_cases h2 : e2 = 0
    · subst h2
      gi_wp2_with fail
      refine ⟨trivial, ?_⟩
      refine (CallsIn.inRound l (callsIn_wide.2 CP.out)).mono ?_
      rintro e W2 ⟨rfl, hb2⟩
      obtain ⟨o, ho⟩ : ∃ o, (Obj.cells #[.int .i64 t1, .int .i64 t2] 74) = o := ⟨_, rfl⟩
      have hv2 := (S3.Boxed.under hv hb2).alloc o
      have hcell2 := hv2.cell
      subst ho
      have hB4 := heap_alloc_new W2 (Obj.cells #[.int .i64 t1, .int .i64 t2] 74)
      have d0 : (W2.alloc (Obj.cells #[.int .i64 t1, .int .i64 t2] 74)).cell? ⟨W2.heap.size, 0, none⟩ = some (.int .i64 t1) := by rw [Lib.cell_of_heap hB4]; rfl
      have d1 : (W2.alloc (Obj.cells #[.int .i64 t1, .int .i64 t2] 74)).cell? ⟨W2.heap.size, 1, none⟩ = some (.int .i64 t2) := by rw [Lib.cell_of_heap hB4]; rfl
      clear hB4
      have hsz6 : w.heap.size + 7 ≤ W2.heap.size := by have := hI.size; have := hb2.size; omega
      obtain ⟨W4, hW4⟩ : ∃ W4, W4 = (W2.alloc (.cells #[.int .i64 t1, .int .i64 t2] 74)).alloc (.cells #[.int .i64 t1, .int .i64 t2] 74) := ⟨_, rfl⟩
      have hb4 : Below W.heap.size W W4 := hW4 ▸ ((hb2.alloc hb2.size _).alloc (by have := hb2.size; simp; omega) _)
      have hrow4 : W4.ownsRow (w.heap.size + 7) 74 2 (.slice A nn c) nn (startVals L) := row_under HRow.out hb4
      have hv4 : Boxed W4 (w.heap.size + 3) 31 (.slice A nn c) := S3.Boxed.under hv hb4
      have hsz4 : w.heap.size + 7 ≤ W4.heap.size := by have := hI.size; have := hb4.size; omega
      have hmx : nn + 1 ≤ maxLen := by rw [HLen.out]; unfold maxLen; omega
      have hby : (nn + 1) * 16 ≤ 140737488355328 := by rw [HLen.out]; omega
      have hn4 : ∀ (j : Nat) (u : Value), (startVals [(t1, t2)])[j]? = some u → W4.cell? ((⟨W2.heap.size + 1, 0, none⟩ : Addr).add j) = some u := by
        intro j u hj
        rw [Addr.add_lit, hW4]
        have hnew := heap_alloc_new (W2.alloc (.cells #[.int .i64 t1, .int .i64 t2] 74)) (.cells #[.int .i64 t1, .int .i64 t2] 74)
        simp only [World.size_alloc] at hnew
        rw [Lib.cell_of_heap hnew]
        match j, hj with
        | 0, hj => exact hj
        | 1, hj => exact hj
        | j + 2, hj => simp [startVals, startVs] at hj
      have hone : ∀ u ∈ startVals [(t1, t2)], u.oneCell' = true := by
        intro u hu
        simp [startVals, startVs] at hu
        rcases hu with rfl | rfl <;> rfl
      have HRow4 := hid hrow4
      have HMx := hid hmx
      have HBy := hid hby
      have H6 := hid hsz4
      have HN := hid hn4
      have HO := hid hone
      have HV4 := hid hv4
      have HB4 := hid hb4
      clear hrow4 hmx hby hsz4 hn4 hv4 hb4 hone
      gi_wp2_with (gi_at_builtin; rw [← hW4]; refine wpListIn_append_own _ rfl _ _ 31 rfl (w.heap.size + 7) 74 i9 (.agg #[.int .i64 0, .int .i64 0]) 2 16 Tryz.underlying31 hi9 hz9 hsi9 hby9 rfl (by decide) _ nn (startVals L) rfl HRow4.out ⟨W2.heap.size + 1, 0, none⟩ 1 1 (startVals [(t1, t2)]) rfl rfl HN.out HO.out HMx.out HBy.out H6.out ?_)
      intro v' w3 hown' hgrow _
      rw [← hW4] at hgrow
      obtain ⟨g', cap', rfl⟩ := ownsRow_succ (k := nn) hown'
      have hv3 : Boxed w3 (w.heap.size + 3) 31 (.slice A nn c) := HV4.out.kept hgrow (fun e => by have := World.ownsRow.lt HRow4.out _ e.symm; omega)
      have hcell3 := hv3.cell
      have hfz3 := hv3.frozen
      have HOW := hid hown'
      have HGW := hid hgrow
      clear hown' hgrow
      gi_wp2
      obtain ⟨i1, i2⟩ := PInv.step hI (Nat.le_refl _) HB4.out hv HRow4.out HGW.out HOW.out (x := lst y) (LL := L ++ [(t1, t2)]) (by rw [HGo.out]; simp [partsGo, hR]) (by rw [List.length_append, HN0.out]; rfl) (by rw [startVals_app]) W0.heap.size
      exact ⟨i2, i1⟩
    · have hgo2 : partsGo (startM d s b m len) (splitC 59 (lst x)) [] = ([], e2) := by rw [hrest, HGo.out]; simp [partsGo, hR, h2]
      have HGo2 := hid hgo2
      clear hgo2
      gi_wp2_with fail
      refine ⟨trivial, ?_⟩
      refine (CallsIn.inRound l (callsIn_wide.2 CP.out)).mono ?_
      rintro e W2 ⟨rfl, hb2⟩
      have k1 := (S3.Boxed.under hI.r1 hb2).alloc (Obj.cells #[.int .i64 t1, .int .i64 t2] 74)
      have k2 := (S3.Boxed.under hI.r2 hb2).alloc (Obj.cells #[.int .i64 t1, .int .i64 t2] 74)
      have hb3 : Below W.heap.size W (W2.alloc (Obj.cells #[.int .i64 t1, .int .i64 t2] 74)) := hb2.alloc hb2.size _
      have f1 := k1.frozen
      have f2 := k2.frozen
      have g1 := k1.cell
      have g2 := k2.cell
      gi_wp2
      obtain ⟨W5, hW5⟩ : ∃ W5, W5 = (W2.alloc (Obj.cells #[.int .i64 t1, .int .i64 t2] 74)) := ⟨_, rfl⟩
      rw [← hW5] at hb3 k1 k2 ⊢
      clear hW5
      have q1 := grownBy_setCell' W5 (w.heap.size + 1) (.slice none 0 0)
      have q2 := grownBy_setCell' (W5.setCell ⟨w.heap.size + 1, 0, none⟩ (.slice none 0 0)) (w.heap.size + 2) (.int .i64 e2)
      have hne' : ∀ a b : Nat, a ≠ b → some a ≠ some b := fun a b h e => h (by injection e)
      refine ⟨(((S3.keeps_below hb3).trans (KeepsOthers.setCell _ _ _)).trans (KeepsOthers.setCell _ _ _)).from _, ⟨?_, e2, by rw [HGo2.out], h2, (k1.set _).kept q2 (hne' _ _ (by omega)), (k2.kept q1 (hne' _ _ (by omega))).set _⟩⟩
      have hz2 := hb3.size
      have hzW := hI.size
      exact ((hB.trans (hb3.mono (by omega))).grown q1 (by omega) (fun k e => by injection e; omega)).grown q2 (by have := q1.size; omega) (fun k e => by injection e; omega)
  case done =>
    rintro D ⟨pre, r⟩ W hD hfin hI hK
    obtain ⟨v, hv, hrow⟩ := hI.acc
    have hok := hI.ok
    dsimp only at hfin hrow hok
    rw [hfin] at hrow hok
    obtain ⟨A, c, hvA⟩ := row_slice hrow
    subst hvA
    have hM : partsM (startM d s b m len) 59 24 (lst x) = if 24 < (partsGo (startM d s b m len) (splitC 59 (lst x)) []).1.length then ([], 2) else ((partsGo (startM d s b m len) (splitC 59 (lst x)) []).1, 0) := by
      unfold partsM
      rw [if_neg (by rw [hok]; simp)]
    obtain ⟨L, hL⟩ : ∃ L, (partsGo (startM d s b m len) (splitC 59 (lst x)) []).1 = L := ⟨_, rfl⟩
    rw [hL] at hM hrow hv
    have hcell := hv.cell
    have f1 := hI.r1.frozen
    have f2 := hI.r2.frozen
    have g1 := hI.r1.cell
    have g2 := hI.r2.cell
    have hBelow := hI.below
    have HRow := hid hrow
    clear hrow hL hok
    by_cases hk : 24 < L.length
    · rw [if_pos hk] at hM
      have hk' : decide ((24 : Int) < (L.length : Int)) = true := decide_eq_true (by omega)
      gi_wp2
      obtain ⟨k0, k1, k2, k3, k4⟩ := parts_end (TE := 74) (z := 2) (v := .slice none 0 0) (e := .int .i64 2) hI.r1 hI.r2 (D := D) (by omega) hK
      refine ⟨by simp, .inl ⟨_, _, rfl, run_takeDeferred k0, ?_⟩⟩
      refine ⟨_, results_cc rfl _ _ _ _ _ _ _ rfl rfl (loadStarts k1.cell) (S3.loadErr k2.cell), ?_⟩
      rw [hM]
      exact ⟨⟨_, rfl, World.ownsRow_nil _ _ _ _⟩, hBelow.trans k3⟩
    · rw [if_neg hk] at hM
      have hk' : decide ((24 : Int) < (L.length : Int)) = false := decide_eq_false (by omega)
      gi_wp2
      obtain ⟨k0, k1, k2, k3, k4⟩ := parts_end (TE := 74) (z := 2) (v := .slice A L.length c) (e := .int .i64 0) hI.r1 hI.r2 (D := D) (by omega) hK
      refine ⟨by simp, .inl ⟨_, _, rfl, run_takeDeferred k0, ?_⟩⟩
      refine ⟨_, results_cc rfl _ _ _ _ _ _ _ rfl rfl (loadStarts k1.cell) (S3.loadErr k2.cell), ?_⟩
      rw [hM]
      exact ⟨⟨_, rfl, rowLow (k4 _ _ _ HRow.out) (by omega)⟩, hBelow.trans k3⟩
  case stop =>
    rintro D W hD ⟨hb, e, he, hne0, h1, h2⟩ hK
    have hM : partsM (startM d s b m len) 59 24 (lst x) = ([], e) := by
      unfold partsM
      rw [if_pos (by rw [he]; exact hne0), he]
    obtain ⟨h1', h2', hlow⟩ := parts_low (D := D) h1 h2 (by omega)
    gi_wp2
    refine ⟨by simp, .inl ⟨_, _, rfl, run_takeDeferred hK, ?_⟩⟩
    refine ⟨_, results_cc rfl _ _ _ _ _ _ _ rfl rfl (loadStarts h1'.cell) (S3.loadErr h2'.cell), ?_⟩
    rw [hM]
    exact ⟨⟨_, rfl, World.ownsRow_nil _ _ _ _⟩, hlow _ hb (Nat.le_refl _)⟩
end Go.Proofs.YtigdcgklpapfbaaGreatDoor.S10
