/-
  Reading a list of times: readTimes of the program. Conditions: the variables hold what their text lays; the text is below 2^32 bytes.
  What holds while entries are read out of records. Conditions: as stated.
  An entry out of the fields of a record: readEntry, given what readField does with one field. Conditions: the fields lie in memory.
  DERIVED: THE SHELF's CONTRACTS AT THIS DUMP, IN PLAIN WORDS (tools/lay-plain.mjs out of 'TryzShelfS.lean', which tools/lay-shelf.mjs wrote): THE SAME DECLARATIONS UNDER THE SAME NAMES: 'import', 'namespace', 'open', 'def', 'theorem' AND NOTHING ELSE: no command of the shelf's: FOR A HAND-IN. Each laying: the table of numbers ('.._ren') and one theorem, a field a fact of the dump's own or the kernel's comparison; each contract: ONE APPLICATION.
-/
import Derived.Test.YteckefolakjafaaGreatDoorBV32
import Derived.Test.YteckefolakjafaaGreatDoorBV20
import Derived.Test.YteckefolakjafaaGreatDoorBV25
import Derived.Test.YteckefolakjafaaGreatDoorBV31
import Derived.Test.YteckefolakjafaaGreatDoorProg
import Derived.Shelf.SlGeneric
import Derived.Shelf.Sort.Plain
import Derived.Shelf.Slices.In.SortNone
set_option linter.unusedVariables false
namespace Go.Proofs.YteckefolakjafaaGreatDoor
open Go Go.Proofs Go.RowKit Go.Lib
attribute [local go_sem] Oper.semAt_some

/-- What readTimes hands back. -/
def TimesOut (r : List TimeD × Int) (w : World) (e : Ending) (w' : World) : Prop := (∃ v, e = .returned (.tuple #[v, .int .i64 r.2]) ∧ TimeRow w' w.heap.size v r.1) ∧ Below w.heap.size w w'
theorem timeRow_slice {w : World} {B : Nat} {v : Value} {l : List TimeD} (h : TimeRow w B v l) : ∃ A c, v = .slice A l.length c := by
  rcases h.2 with ⟨hv, h0⟩ | ⟨g, cap, cur, hv, _⟩
  · exact ⟨none, 0, by rw [hv, h0]⟩
  · exact ⟨_, cap, hv⟩
theorem TimeRow.mono {w : World} {B B' : Nat} {v : Value} {l : List TimeD} (h : TimeRow w B v l) (hB : B' ≤ B) : TimeRow w B' v l := by
  obtain ⟨h1, h2⟩ := h
  refine ⟨h1, ?_⟩
  rcases h2 with h2 | ⟨g, cap, cur, hv, hg, r⟩
  · exact .inl h2
  · exact .inr ⟨g, cap, cur, hv, Nat.le_trans hB hg, r⟩
theorem loadTimes {w : World} {k : Nat} {x : Value} (h0 : w.cell? ⟨k, 0, none⟩ = some x) : (loadVar 44 ⟨k, 0, none⟩).run Tryz.prog w = .ok x w := by
  simp [loadVar, go_sem, h0]
theorem four_new (w : World) (a b c d : Int) (T : TypeId) : ∀ (j : Nat) (u : Value), (timeVs (a, b, c, d))[j]? = some u → (w.alloc (.cells #[.int .i64 a, .int .i64 b, .int .i64 c, .int .i64 d] T)).cell? ((⟨w.heap.size, 0, none⟩ : Addr).add j) = some u := by
  intro j u h
  have k := Box4.new w a b c d T
  rw [Addr.add_lit]
  match j, h with
  | 0, h => exact k.c0.trans h
  | 1, h => exact k.c1.trans h
  | 2, h => exact k.c2.trans h
  | 3, h => exact k.c3.trans h
  | j + 4, h => simp [timeVs] at h
theorem times_one (t : TimeD) : ∀ u ∈ timeVs t, u.oneCell' = true := fun u hu => timeVals_one [t] u (by simpa [timeVals] using hu)
set_option maxHeartbeats 8000000 in
set_option maxRecDepth 100000 in
theorem readTimes_any (d s b m n : Int) (x : ByteArray) (hs : x.size < 4294967281) (w : World) (hE : Env7 w) :
    Calls Tryz.prog 58 #[.string x, .agg #[.int .i64 d, .int .i64 s, .int .i64 b, .int .i64 m], .int .i64 n] w (TimesOut (timesM d s b m n (lst x)) w) := by
  refine (callsIn_wide (n := 9)).1 ?_
  refine callsIn_of_wp_marks Tryz.func58 rfl trivial ?_ rfl
  simp only [Tryz.ntmps58, List.size_toArray, List.length_cons, List.length_nil, Nat.reduceAdd, Nat.reduceSub, Array.replicate_succ, Array.replicate_zero, List.push_toArray, List.append_toArray, List.nil_append, List.cons_append]
  by_cases h0 : 0 < x.size
  · obtain ⟨x1, x2, x3, x4⟩ := str_no h0
    have hne : lst x ≠ [] := fun e => by rw [Lib.size_eq, show x.data.toList = lst x from rfl, e] at h0; simp at h0
    gi_wp2_with fail
    refine ⟨trivial, ?_⟩
    refine (callsIn_wide.2 (S3.splitSeq_any x _)).mono ?_
    rintro e w' ⟨rfl, rfl⟩
    gi_wp2
    obtain ⟨W0, hW0⟩ : ∃ W0, ((((((((w.alloc (Obj.cells #[.int .i64 d, .int .i64 s, .int .i64 b, .int .i64 m] 24)).alloc (Obj.cells #[.int .i64 n] 3)).alloc (Obj.cells #[Value.slice none 0 0] 44)).alloc (Obj.cells #[Value.int IntKind.i64 0] 26)).alloc (Obj.cells #[Value.slice none 0 0] 44)).alloc (Obj.cells #[Value.string x] 9)).alloc (Obj.cells #[Value.string { data := #[59] }] 9)).alloc (Obj.cells #[Value.int IntKind.i64 0] 3)) = W0 := ⟨_, rfl⟩
    rw [hW0]
    have hI0 : TInv w.heap.size w d s b m n ([], x) W0 := by
      rw [← hW0]
      refine ⟨?_, by simp, ?_, ?_, ?_, ?_, ⟨.slice none 0 0, ?_, World.ownsRow_nil _ _ _ _⟩, ?_, ?_, ?_, rfl⟩
      rotate_left
      · have hb : Below (w.heap.size + 1) (w.alloc (Obj.cells #[.int .i64 d, .int .i64 s, .int .i64 b, .int .i64 m] 24)) _ := (((((((Below.refl _ _).alloc (by simp) (.cells #[.int .i64 n] 3)).alloc (by simp) (.cells #[.slice none 0 0] 44)).alloc (by simp) (.cells #[.int .i64 0] 26)).alloc (by simp) (.cells #[.slice none 0 0] 44)).alloc (by simp) (.cells #[.string x] 9)).alloc (by simp) (.cells #[.string ⟨#[59]⟩] 9)).alloc (by simp) (.cells #[.int .i64 0] 3)
        exact (hb.block _ (by omega)).trans (heap_alloc_new w _)
      rotate_right
      · exact ((((((((Below.refl _ w).alloc (Nat.le_refl _) _).alloc (by simp) _).alloc (by simp; omega) _).alloc (by simp; omega) _).alloc (by simp; omega) _).alloc (by simp; omega) _).alloc (by simp; omega) _).alloc (by simp; omega) _
      · exact ((((((S3.box_at (by simp) 3 _).alloc _).alloc _).alloc _).alloc _).alloc _).alloc _
      · exact (((((S3.box_at (by simp) 44 _).alloc _).alloc _).alloc _).alloc _).alloc _
      · exact ((((S3.box_at (by simp) 26 _).alloc _).alloc _).alloc _).alloc _
      · exact (((S3.box_at (by simp) 44 _).alloc _).alloc _).alloc _
      · exact ((S3.box_at (by simp) 9 _).alloc _).alloc _
      · exact (S3.box_at (by simp) 9 _).alloc _
      · exact S3.box_at (by simp) 3 _
    have hz0 : w.heap.size + 8 ≤ W0.heap.size := hI0.size
    have hEv := hE.e.size
    clear hW0
    refine S3.range_own (by omega) (gf := 150) (lb := #[.pointer (some ⟨w.heap.size + 5 + 1, 0, none⟩), .pointer (some ⟨w.heap.size + 5, 0, none⟩), .pointer (some ⟨w.heap.size + 5 + 2, 0, none⟩)]) rfl (enters_of Tryz.func150 (by kernel_rfl) rfl) (w.heap.size + 5) (by omega)
      (fun st y => ∃ rest, S3.splitL (lst x) = st.1 ++ lst y :: rest) (fun st y => (st.1 ++ [lst y], st.2)) (fun st => st.1 = S3.splitL (lst x)) (TInv w.heap.size w d s b m n) (TErr w.heap.size w d s b m n (lst x)) ([], x)
      (S3.split_iter _ (w.heap.size + 5) x (by omega) _ (fun st W h => h.vars) (fun st r W h => h.turn (Nat.le_refl _) r)) rfl (TInv.own (Nat.le_refl _) hz0) (TErr.own (Nat.le_refl _) hz0) hI0
      (fun y => { tmps := #[.string x, .agg #[.int .i64 d, .int .i64 s, .int .i64 b, .int .i64 m], .int .i64 n, undef, .pointer (some ⟨w.heap.size, 0, none⟩), .pointer (some ⟨w.heap.size + 1, 0, none⟩), .pointer (some ⟨w.heap.size + 1 + 1, 0, none⟩), .pointer (some ⟨w.heap.size + 1 + 1 + 1, 0, none⟩), .pointer (some ⟨w.heap.size + 1 + 1 + 1 + 1, 0, none⟩),
        .string y, undef, undef, .string x, .bool false, .string x, .func (.func 150) #[] #[.pointer (some ⟨w.heap.size + 1 + 1 + 1 + 1 + 1 + 1, 0, none⟩), .pointer (some ⟨w.heap.size + 1 + 1 + 1 + 1 + 1, 0, none⟩), .pointer (some ⟨w.heap.size + 1 + 1 + 1 + 1 + 1 + 2, 0, none⟩)],
        .string y, undef, undef, undef, undef, undef, undef, undef, undef, undef, undef, undef, undef, undef, undef, undef, undef, undef, undef], defers := [] }) ?assign ?body ?done ?stop
    case assign =>
      intro l y W K hK
      gi_wp2
      exact hK
    case body =>
      rintro l ⟨pre, r⟩ y W hI ⟨rest, hrest⟩
      obtain ⟨v, hv, hrow⟩ := hI.acc
      have hok := hI.ok
      dsimp only at hrow hok hrest ⊢
      have hxs : y.size < 4294967281 := by
        have := S3.splitL_mem (lst x) (lst y) (by rw [hrest]; simp)
        rw [show (lst y).length = y.size from (Lib.size_eq y).symm, show (lst x).length = x.size from (Lib.size_eq x).symm] at this
        omega
      obtain ⟨L, hL⟩ : ∃ L, (tgo d s b m n pre []).1 = L := ⟨_, rfl⟩
      have hgo : ∀ qs, tgo d s b m n (pre ++ qs) [] = tgo d s b m n qs L := fun qs => by rw [tgo_app d s b m n _ _ _ hok, hL]
      have hlen : L.length = pre.length := by rw [← hL, tgo_len d s b m n pre [] hok]; simp
      have hpl : pre.length ≤ 4294967281 := by
        have h1 := splitL_len (lst x)
        rw [hrest, List.length_append, show (lst x).length = x.size from (Lib.size_eq x).symm] at h1
        omega
      rw [hL] at hrow
      have hB := hI.below
      have hEW : Env7 W := hE.below hB (Nat.le_refl _)
      have cP := tparse_any d s b m n y (by omega) W hEW.e hEW.d
      obtain ⟨⟨⟨t1, t2, t3, t4⟩, e2⟩, hR⟩ : ∃ R, timeM d s b m n (lst y) = R := ⟨_, rfl⟩
      rw [hR] at cP
      unfold TimeOut at cP
      dsimp only at cP
      have c0 : W.cell? ⟨w.heap.size, 0, none⟩ = some (.int .i64 d) := by rw [Lib.cell_of_heap hI.g]; rfl
      have c1 : W.cell? ⟨w.heap.size, 1, none⟩ = some (.int .i64 s) := by rw [Lib.cell_of_heap hI.g]; rfl
      have c2 : W.cell? ⟨w.heap.size, 2, none⟩ = some (.int .i64 b) := by rw [Lib.cell_of_heap hI.g]; rfl
      have c3 : W.cell? ⟨w.heap.size, 3, none⟩ = some (.int .i64 m) := by rw [Lib.cell_of_heap hI.g]; rfl
      have c4 := hI.n1.cell
      obtain ⟨A, c, hvA⟩ := timeRow_slice hrow
      subst hvA
      have HRow := hid hrow
      have HGo := hid hgo
      have HOk := hid hok
      have HLen := hid hlen
      have CP := hid cP
      clear hrow hgo hL hok hEW hlen cP
      by_cases h2 : e2 = 0
      · subst h2
        gi_wp2_with fail
        refine ⟨trivial, ?_⟩
        refine (CallsIn.inRound l (callsIn_wide.2 CP.out)).mono ?_
        rintro e W2 ⟨rfl, hb2⟩
        obtain ⟨o, ho⟩ : ∃ o, (Obj.cells #[.int .i64 t1, .int .i64 t2, .int .i64 t3, .int .i64 t4] 55) = o := ⟨_, rfl⟩
        have hv2 := (S3.Boxed.under hv hb2).alloc o
        have hB4 := Box4.new W2 t1 t2 t3 t4 55
        rw [ho] at hB4
        have hcell2 := hv2.cell
        have d0 := hB4.c0
        have d1 := hB4.c1
        have d2 := hB4.c2
        have d3 := hB4.c3
        have hsz6 : w.heap.size + 8 ≤ W2.heap.size := by have := hI.size; have := hb2.size; omega
        subst ho
        obtain ⟨i9, hi9, hz9, hsi9, hby9⟩ := info_parts infoTime
        obtain ⟨W4, hW4⟩ : ∃ W4, W4 = (W2.alloc (.cells #[.int .i64 t1, .int .i64 t2, .int .i64 t3, .int .i64 t4] 55)).alloc (.cells #[.int .i64 t1, .int .i64 t2, .int .i64 t3, .int .i64 t4] 55) := ⟨_, rfl⟩
        have hb4 : Below W.heap.size W W4 := hW4 ▸ ((hb2.alloc hb2.size _).alloc (by have := hb2.size; simp; omega) _)
        have hrow4 : TimeRow W4 (w.heap.size + 8) (.slice A L.length c) L := row_under HRow.out hb4
        have hv4 : Boxed W4 (w.heap.size + 4) 44 (.slice A L.length c) := S3.Boxed.under hv hb4
        have hsz4 : w.heap.size + 8 ≤ W4.heap.size := by have := hI.size; have := hb4.size; omega
        have hmx : L.length + 1 ≤ maxLen := by rw [HLen.out]; unfold maxLen; omega
        have hby : (L.length + 1) * 32 ≤ 140737488355328 := by rw [HLen.out]; omega
        have hn4 : ∀ (j : Nat) (u : Value), (timeVs (t1, t2, t3, t4))[j]? = some u → W4.cell? ((⟨W2.heap.size + 1, 0, none⟩ : Addr).add j) = some u := by
          have := four_new (W2.alloc (.cells #[.int .i64 t1, .int .i64 t2, .int .i64 t3, .int .i64 t4] 55)) t1 t2 t3 t4 55
          rw [hW4]
          simpa using this
        have HRow4 := hid hrow4
        have HMx := hid hmx
        have HBy := hid hby
        have H6 := hid hsz4
        have HN := hid hn4
        have HV4 := hid hv4
        have HB4 := hid hb4
        clear hrow4 hmx hby hsz4 hn4 hv4 hb4
        gi_wp2_with (gi_at_builtin; rw [← hW4]; refine wpListIn_append_own _ rfl _ _ 44 rfl (w.heap.size + 8) 55 i9 (.agg #[.int .i64 0, .int .i64 0, .int .i64 0, .int .i64 0]) 4 32 Tryz.underlying44 hi9 hz9 hsi9 hby9 rfl (by decide) _ L.length (timeVals L) rfl HRow4.out ⟨W2.heap.size + 1, 0, none⟩ 1 1 (timeVs (t1, t2, t3, t4)) rfl rfl HN.out (times_one _) HMx.out HBy.out H6.out ?_)
        intro v' w3 hown' hgrow _
        rw [← hW4] at hgrow
        obtain ⟨g', cap', rfl⟩ := ownsRow_succ (k := L.length) hown'
        have hv3 : Boxed w3 (w.heap.size + 4) 44 (.slice A L.length c) := HV4.out.kept hgrow (fun e => by have := World.ownsRow.lt HRow4.out _ e.symm; omega)
        have hcell3 := hv3.cell
        have hfz3 := hv3.frozen
        have hown2 : TimeRow w3 (w.heap.size + 8) (.slice (some ⟨g', 0, none⟩) (L.length + 1) cap') (L ++ [(t1, t2, t3, t4)]) := by
          unfold TimeRow
          rw [timeVals_app, List.length_append]
          simpa [timeVals] using hown'
        have HOW := hid hown2
        have HGW := hid hgrow
        clear hown' hown2 hgrow
        gi_wp2
        obtain ⟨i1, i2⟩ := TInv.step hI (Nat.le_refl _) HB4.out hv HRow4.out HGW.out HOW.out (x := lst y) (by rw [HGo.out]; simp [tgo, hR]) W0.heap.size
        exact ⟨i2, i1⟩
      · have hgo2 : tgo d s b m n (S3.splitL (lst x)) [] = ([], e2) := by rw [hrest, HGo.out]; simp [tgo, hR, h2]
        have HGo2 := hid hgo2
        clear hgo2
        gi_wp2_with fail
        refine ⟨trivial, ?_⟩
        refine (CallsIn.inRound l (callsIn_wide.2 CP.out)).mono ?_
        rintro e W2 ⟨rfl, hb2⟩
        have k1 := (S3.Boxed.under hI.r1 hb2).alloc (Obj.cells #[.int .i64 t1, .int .i64 t2, .int .i64 t3, .int .i64 t4] 55)
        have k2 := (S3.Boxed.under hI.r2 hb2).alloc (Obj.cells #[.int .i64 t1, .int .i64 t2, .int .i64 t3, .int .i64 t4] 55)
        have f1 := k1.frozen
        have f2 := k2.frozen
        have g1 := k1.cell
        have g2 := k2.cell
        gi_wp2
        have hb3 : Below W.heap.size W (W2.alloc (Obj.cells #[.int .i64 t1, .int .i64 t2, .int .i64 t3, .int .i64 t4] 55)) := hb2.alloc hb2.size _
        obtain ⟨W5, hW5⟩ : ∃ W5, W5 = W2.alloc (Obj.cells #[.int .i64 t1, .int .i64 t2, .int .i64 t3, .int .i64 t4] 55) := ⟨_, rfl⟩
        rw [← hW5] at hb3 k1 k2 ⊢
        clear hW5
        have q1 := grownBy_setCell' W5 (w.heap.size + 2) (.slice none 0 0)
        have q2 := grownBy_setCell' (W5.setCell ⟨w.heap.size + 2, 0, none⟩ (.slice none 0 0)) (w.heap.size + 3) (.int .i64 e2)
        have hne' : ∀ a b : Nat, a ≠ b → some a ≠ some b := fun a b h e => h (by injection e)
        refine ⟨(((S3.keeps_below hb3).trans (KeepsOthers.setCell _ _ _)).trans (KeepsOthers.setCell _ _ _)).from _, ⟨?_, e2, by rw [HGo2.out], h2, (k1.set _).kept q2 (hne' _ _ (by omega)), (k2.kept q1 (hne' _ _ (by omega))).set _⟩⟩
        have hz2 := hb3.size
        have hzW := hI.size
        exact ((hB.trans (hb3.mono (by omega))).grown q1 (by omega) (fun k e => by injection e; omega)).grown q2 (by have := q1.size; omega) (fun k e => by injection e; omega)
    case done =>
      rintro D ⟨pre, r⟩ W hD hfin hI hK
      obtain ⟨v, hv, hrow⟩ := hI.acc
      have hok := hI.ok
      dsimp only at hfin hrow hok
      rw [hfin] at hrow hok
      obtain ⟨A, c, hvA⟩ := timeRow_slice hrow
      subst hvA
      have hM : timesM d s b m n (lst x) = if 24 < (tgo d s b m n (S3.splitL (lst x)) []).1.length then ([], 2) else ((tgo d s b m n (S3.splitL (lst x)) []).1, 0) := by
        unfold timesM
        rw [if_neg hne, if_neg (by rw [hok]; simp)]
      obtain ⟨L, hL⟩ : ∃ L, (tgo d s b m n (S3.splitL (lst x)) []).1 = L := ⟨_, rfl⟩
      rw [hL] at hM hrow hv
      have hcell := hv.cell
      have f1 := hI.r1.frozen
      have f2 := hI.r2.frozen
      have g1 := hI.r1.cell
      have g2 := hI.r2.cell
      have hBelow := hI.below
      have HRow := hid hrow
      clear hrow hL hok
      by_cases hk : 24 < L.length
      · rw [if_pos hk] at hM
        have hk' : decide ((24 : Int) < (L.length : Int)) = true := decide_eq_true (by omega)
        gi_wp2
        obtain ⟨k0, k1, k2, k3, k4⟩ := times_end (v := .slice none 0 0) (e := .int .i64 2) hI.r1 hI.r2 (D := D) (by omega) hK
        refine ⟨by simp, .inl ⟨_, _, rfl, run_takeDeferred k0, ?_⟩⟩
        refine ⟨_, results_cc rfl _ _ _ _ _ _ _ rfl rfl (loadTimes k1.cell) (S3.loadErr k2.cell), ?_⟩
        rw [hM]
        exact ⟨⟨_, rfl, World.ownsRow_nil _ _ _ _⟩, hBelow.trans k3⟩
      · rw [if_neg hk] at hM
        have hk' : decide ((24 : Int) < (L.length : Int)) = false := decide_eq_false (by omega)
        gi_wp2
        obtain ⟨k0, k1, k2, k3, k4⟩ := times_end (v := .slice A L.length c) (e := .int .i64 0) hI.r1 hI.r2 (D := D) (by omega) hK
        refine ⟨by simp, .inl ⟨_, _, rfl, run_takeDeferred k0, ?_⟩⟩
        refine ⟨_, results_cc rfl _ _ _ _ _ _ _ rfl rfl (loadTimes k1.cell) (S3.loadErr k2.cell), ?_⟩
        rw [hM]
        exact ⟨⟨_, rfl, TimeRow.mono (k4 _ _ _ HRow.out) (by omega)⟩, hBelow.trans k3⟩
    case stop =>
      rintro D W hD ⟨hb, e, he, hne0, h1, h2⟩ hK
      have hM : timesM d s b m n (lst x) = ([], e) := by
        unfold timesM
        rw [if_neg hne, if_pos (by rw [he]; exact hne0), he]
      have hg3 := grownBy_putObj' W D (.deferred none)
      have hne' : ∀ a b : Nat, a ≠ b → some a ≠ some b := fun a b h e => h (by injection e)
      gi_wp2
      refine ⟨by simp, .inl ⟨_, _, rfl, run_takeDeferred hK, ?_⟩⟩
      refine ⟨_, results_cc rfl _ _ _ _ _ _ _ rfl rfl (loadTimes (h1.kept hg3 (hne' _ _ (by omega))).cell) (S3.loadErr (h2.kept hg3 (hne' _ _ (by omega))).cell), ?_⟩
      rw [hM]
      exact ⟨⟨_, rfl, World.ownsRow_nil _ _ _ _⟩, hb.grown hg3 hb.size (fun k e => by injection e; omega)⟩
  · obtain ⟨x1, x2, x3, x4⟩ := str_yes h0
    have hnil := lst_nil h0
    have hM : timesM d s b m n (lst x) = ([], 0) := by rw [hnil]; rfl
    gi_wp2
    refine ⟨_, results_cc rfl _ _ _ _ _ _ _ rfl rfl (loadTimes (x := .slice none 0 0) ?_) (S3.loadErr (x := .int .i64 0) ?_), ?_⟩
    · exact ((S3.box_at (by simp) 44 _).alloc _).cell
    · exact (S3.box_at (by simp) 26 _).cell
    · rw [hM]
      exact ⟨⟨_, rfl, World.ownsRow_nil _ _ _ _⟩, ((((Below.refl _ w).alloc (Nat.le_refl _) _).alloc (by simp) _).alloc (by simp; omega) _).alloc (by simp; omega) _⟩
end Go.Proofs.YteckefolakjafaaGreatDoor

set_option linter.unusedVariables false
namespace Go.Proofs.YteckefolakjafaaGreatDoor
open Go Go.Proofs Go.RowKit Go.Lib

structure EInv (M : Nat) (w : World) (rs : List RoomD) (ps : List ProbD) (cs : List Str) (v1 v2 : Value) (W : World) : Prop where
  row : ∃ Lr : List (RoomD × Room5), Lr.map (·.1) = rs ∧ W.ownsRow w.heap.size 46 5 v1 Lr.length (roomVals Lr) ∧ ∀ p ∈ Lr, RoomIn W (fun k => w.heap.size ≤ k ∧ k < W.heap.size ∧ some k ≠ v1.ownBlock ∧ some k ≠ v2.ownBlock) p.1 p.2
  probs : ProbsRow W w.heap.size v2 ps
  map : KSet W M cs
  below : Below M w W
theorem EInv.start {M : Nat} {w : World} (h : KSet w M []) : EInv M w [] [] [] (.slice none 0 0) (.slice none 0 0) w :=
  ⟨⟨[], rfl, World.ownsRow_nil _ _ _ _, fun p hp => by simp at hp⟩, World.ownsRow_nil _ _ _ _, h, Below.refl _ _⟩
theorem own_lt {W : World} {B e z n : Nat} {v : Value} {xs : List Value} (h : W.ownsRow B e z v n xs) : ∀ k, v.ownBlock = some k → B ≤ k ∧ k < W.heap.size := World.ownsRow.lt h
section
variable {M : Nat} {w W W' : World} {rs : List RoomD} {ps : List ProbD} {cs cs' : List Str} {v1 v2 : Value}
/-- A call in between, which turns nothing but the map at most. -/
theorem EInv.past (h : EInv M w rs ps cs v1 v2 W) (hM : M < w.heap.size) (hg : W.grownBy W' (some M)) (hk : KSet W' M cs') : EInv M w rs ps cs' v1 v2 W' := by
  obtain ⟨⟨Lr, hL, ho, hr⟩, hp, _, hb⟩ := h
  have hs := hg.size
  have hbs := hb.size
  have e1 : some M ≠ v1.ownBlock := fun e => by have := (own_lt ho M e.symm).1; omega
  have e2 : some M ≠ v2.ownBlock := fun e => by have := (own_lt hp M e.symm).1; omega
  refine ⟨⟨Lr, hL, World.ownsRow.kept ho hg (.inr fun e => e1 e.symm), fun p hp' => ?_⟩, World.ownsRow.kept hp hg (.inr fun e => e2 e.symm), hk, hb.grown hg (by omega) (fun k e => by injection e; omega)⟩
  exact ((hr p hp').kept (fun k hk => hg.block k hk.2.1 (fun e => by injection e; omega))).mono (fun k hk => ⟨hk.1, by omega, hk.2.2⟩)
theorem EInv.under (h : EInv M w rs ps cs v1 v2 W) (hM : M < w.heap.size) (hb : Below W.heap.size W W') : EInv M w rs ps cs v1 v2 W' :=
  h.past hM (grown_none ⟨hb.os, hb.tape, hb.output, hb.size, fun k hk _ => hb.block k hk⟩) (h.map.below hb)
theorem kinds_ne {B B' e e' z z' n n' : Nat} {v v' : Value} {xs xs' : List Value} (h : W.ownsRow B e z v n xs) (h' : W.ownsRow B' e' z' v' n' xs') (hne : e ≠ e') : v.ownBlock = none ∨ v.ownBlock ≠ v'.ownBlock := by
  cases hv : v.ownBlock with
  | none => exact .inl rfl
  | some g =>
    refine .inr fun e0 => ?_
    obtain ⟨c, hc⟩ := row_kindT h g hv
    obtain ⟨c', hc'⟩ := row_kindT h' g e0.symm
    rw [hc] at hc'
    injection hc' with h1
    injection h1 with _ h2
    exact hne h2
/-- One problem more. -/
theorem EInv.prob {v2' : Value} {p : ProbD} (h : EInv M w rs ps cs v1 v2 W) (hM : M < w.heap.size) (hown : ProbsRow W' w.heap.size v2' (ps ++ [p])) (hg : W.grownBy W' v2.ownBlock) (hat : v2'.ownBlock = v2.ownBlock ∨ ∃ k, v2'.ownBlock = some k ∧ W.heap.size ≤ k) : EInv M w rs (ps ++ [p]) cs v1 v2' W' := by
  obtain ⟨⟨Lr, hL, ho, hr⟩, hp, hk, hb⟩ := h
  have hs := hg.size
  have hbs := hb.size
  have e2 : some M ≠ v2.ownBlock := fun e => by have := (own_lt hp M e.symm).1; omega
  refine ⟨⟨Lr, hL, World.ownsRow.kept ho hg (kinds_ne ho hp (by decide)), fun p hp' => ?_⟩, hown, hk.kept hg e2, hb.grown hg (by omega) (fun k e => by have := (own_lt hp k e).1; omega)⟩
  refine ((hr p hp').kept (fun k hk => hg.block k hk.2.1 hk.2.2.2)).mono (fun k hk => ⟨hk.1, by omega, hk.2.2.1, ?_⟩)
  rcases hat with e | ⟨j, e, hj⟩
  · rw [e]; exact hk.2.2.2
  · rw [e]; intro e0; injection e0 with e0; have := hk.2.1; omega
/-- One room more. -/
theorem EInv.room {v1' : Value} {r : RoomD} {q : Room5} {C : Nat} (h : EInv M w rs ps cs v1 v2 W) (hM : M < w.heap.size)
    (hr' : RoomIn W (fun k => C ≤ k ∧ k < W.heap.size) r q) (hC : w.heap.size ≤ C) (h1 : ∀ k, v1.ownBlock = some k → k < C) (h2 : ∀ k, v2.ownBlock = some k → k < C)
    {Lr : List (RoomD × Room5)} (hL : Lr.map (·.1) = rs) (ho : W.ownsRow w.heap.size 46 5 v1 Lr.length (roomVals Lr)) (hr : ∀ p ∈ Lr, RoomIn W (fun k => w.heap.size ≤ k ∧ k < W.heap.size ∧ some k ≠ v1.ownBlock ∧ some k ≠ v2.ownBlock) p.1 p.2)
    (hown : W'.ownsRow w.heap.size 46 5 v1' (Lr.length + 1) (roomVals Lr ++ roomVs r q))
    (hg : W.grownBy W' v1.ownBlock) (hat : v1'.ownBlock = v1.ownBlock ∨ ∃ k, v1'.ownBlock = some k ∧ W.heap.size ≤ k) : EInv M w (rs ++ [r]) ps cs v1' v2 W' := by
  obtain ⟨_, hp, hk, hb⟩ := h
  have hs := hg.size
  have hbs := hb.size
  have e1 : some M ≠ v1.ownBlock := fun e => by have := (own_lt ho M e.symm).1; omega
  have hne : ∀ k, k < W.heap.size → some k ≠ v1.ownBlock → some k ≠ v1'.ownBlock := by
    intro k hk hne
    rcases hat with e | ⟨j, e, hj⟩
    · rw [e]; exact hne
    · rw [e]; intro e0; injection e0 with e0; omega
  refine ⟨⟨Lr ++ [(r, q)], by rw [List.map_append, hL]; rfl, ?_, fun p hp' => ?_⟩, World.ownsRow.kept hp hg (kinds_ne hp ho (by decide)), hk.kept hg e1, hb.grown hg (by omega) (fun k e => by have := (own_lt ho k e).1; omega)⟩
  · rw [roomVals_app, List.length_append, List.length_singleton]
    simpa [roomVals] using hown
  · rcases List.mem_append.1 hp' with hp' | hp'
    · exact ((hr p hp').kept (fun k hk => hg.block k hk.2.1 hk.2.2.1)).mono (fun k hk => ⟨hk.1, by omega, hne k hk.2.1 hk.2.2.1, hk.2.2.2⟩)
    · rw [List.mem_singleton] at hp'
      subst hp'
      have k1 : ∀ k, C ≤ k → some k ≠ v1.ownBlock := fun k hk e => by have := h1 k e.symm; omega
      have k2 : ∀ k, C ≤ k → some k ≠ v2.ownBlock := fun k hk e => by have := h2 k e.symm; omega
      exact (hr'.kept (fun k hk => hg.block k hk.2 (k1 k hk.1))).mono (fun k hk => ⟨by omega, by omega, hne k hk.2 (k1 k hk.1), k2 k hk.1⟩)
end
theorem setF_code (d s b m n : Int) (K : Nat) (hK : 0 < K) (i : Nat) (x : Str) (r : RoomD) (hx : x.length < K) (hr : r.1.length < K) : (setF d s b m n i x r).1.1.length < K := by
  match i with
  | 0 => simp only [setF]; split <;> simp_all
  | 1 => simp only [setF]; split <;> simp_all
  | 2 => exact hr
  | 3 => exact hr
  | 4 => exact hr
  | j + 5 => exact hr
theorem efold_code (d s b m n : Int) (K : Nat) (hK : 0 < K) : ∀ (fs : List FieldD) (i : Nat) (r : RoomD), (∀ f ∈ fs, f.1.length < K) → r.1.length < K → (efold d s b m n fs i r).1.1.length < K
  | [], _, r, _, hr => hr
  | f :: fs, i, r, h, hr => by
    unfold efold
    have h1 := setF_code d s b m n K hK i f.1 r (h f (by simp)) hr
    split
    · exact h1
    · exact efold_code d s b m n K hK fs (i + 1) _ (fun g hg => h g (by simp [hg])) h1
theorem entryM_code (d s b m n : Int) (K : Nat) (hK : 0 < K) (fs : List FieldD) (h : ∀ f ∈ fs, f.1.length < K) : (entryM d s b m n fs).1.1.length < K := by
  unfold entryM
  split
  · exact hK
  · exact efold_code d s b m n K hK fs 0 zeroR h hK
theorem five_new (w : World) (r : RoomD) (q : Room5) : ∀ (j : Nat) (u : Value), (roomVs r q)[j]? = some u → (w.alloc (.cells #[.string (ba r.1), .string (ba r.2.1), .int .i64 r.2.2.1, .slice q.a1 r.2.2.2.1.length q.c1, .slice q.a2 r.2.2.2.2.length q.c2] 46)).cell? ((⟨w.heap.size, 0, none⟩ : Addr).add j) = some u := by
  intro j u h
  obtain ⟨k0, k1, k2, k3, k4⟩ := (Box5.new w (.string (ba r.1)) (.string (ba r.2.1)) (.int .i64 r.2.2.1) (.slice q.a1 r.2.2.2.1.length q.c1) (.slice q.a2 r.2.2.2.2.length q.c2)).cells
  rw [Addr.add_lit]
  match j, h with
  | 0, h => exact k0.trans h
  | 1, h => exact k1.trans h
  | 2, h => exact k2.trans h
  | 3, h => exact k3.trans h
  | 4, h => exact k4.trans h
  | j + 5, h => simp [roomVs] at h
theorem room_one (r : RoomD) (q : Room5) : ∀ u ∈ roomVs r q, u.oneCell' = true := by
  intro u hu
  simp [roomVs] at hu
  rcases hu with rfl | rfl | rfl | rfl | rfl <;> rfl
/-- What reading entries leaves behind. -/
def EntsOut (M : Nat) (o : List RoomD × List ProbD) (w : World) (e : Ending) (w' : World) : Prop := ∃ v1 v2, e = .returned (.tuple #[v1, v2]) ∧ EInv M w o.1 o.2 (codesR o.1) v1 v2 w'
end Go.Proofs.YteckefolakjafaaGreatDoor

set_option linter.unusedVariables false
namespace Go.Proofs.YteckefolakjafaaGreatDoor
open Go Go.Proofs Go.RowKit Go.Lib

set_option maxHeartbeats 8000000 in
set_option maxRecDepth 100000 in
theorem readEntry_any (d s b m n : Int) (A : Option Addr) (fs : List FieldD) (c B : Nat) (G N : Nat) (w : World) (hB : B ≤ w.heap.size) (h : FieldsIn w (fun b => b < B) A fs) (hfc : fs.length ≤ c) (hc : c ≤ 9223372036854775807)
    (hF : ∀ (W : World) (R i : Nat) (x : Str) (r : RoomD) (q : Room5), Below w.heap.size w W → w.heap.size ≤ R → i < 5 → (∃ f ∈ fs, f.1 = x) → Box5 W R (.string (ba r.1)) (.string (ba r.2.1)) (.int .i64 r.2.2.1) (.slice q.a1 r.2.2.2.1.length q.c1) (.slice q.a2 r.2.2.2.2.length q.c2) → RoomIn W (fun k => R < k ∧ k < W.heap.size) r q →
      Calls Tryz.prog 29 (#[.pointer (some ⟨R, 0, none⟩), .int .i64 (i : Int), .string (ba x)] ++ #[.pointer (some ⟨G, 0, none⟩), .pointer (some ⟨N, 0, none⟩)]) W (FieldOut d s b m n i x r R W)) :
    Calls Tryz.prog 59 #[.slice A fs.length c, .int .i64 5, .func (.func 29) #[] #[.pointer (some ⟨G, 0, none⟩), .pointer (some ⟨N, 0, none⟩)]] w (EntryOut (entryM d s b m n fs) w) := by
  have eg : ∀ args w, (callFunc 29 args).run Tryz.prog w = .ok (.enter 29 args) w := enters_of Tryz.func29 (by kernel_rfl) rfl
  obtain ⟨O, hO⟩ : ∃ O, entryM d s b m n fs = O := ⟨_, rfl⟩
  rw [hO]
  have hb0 := (Below.refl w.heap.size w).alloc (Nat.le_refl _) (.cells #[.string ⟨#[]⟩, .string ⟨#[]⟩, .int .i64 0, .slice none 0 0, .slice none 0 0] 46)
  have hx0 := Box5.new w (.string ⟨#[]⟩) (.string ⟨#[]⟩) (.int .i64 0) (.slice none 0 0) (.slice none 0 0)
  have hr0 : ∀ W P, RoomIn W P zeroR ⟨none, 0, none, 0⟩ := fun W P => ⟨.inl rfl, TimesIn.nil _ _ _, Nat.le_refl _, by decide, Nat.le_refl _, by decide⟩
  have HH := hid h
  have HF := hid hF
  have HR0 := hid hr0
  by_cases h5 : fs.length = 5
  · have hn5 : ((fs.length : Int) != 5) = false := by rw [h5]; rfl
    have hOe : Hid (efold d s b m n fs 0 zeroR = O) := hid (by rw [← hO]; unfold entryM; rw [if_neg (by simp [h5])])
    have HB0 := hid hb0
    have HX0 := hid hx0
    clear h hF hr0 hO hb0 hx0
    go_enter Tryz.func59, Tryz.ntmps59
    go_wp2
    generalize w.alloc (.cells #[.string ⟨#[]⟩, .string ⟨#[]⟩, .int .i64 0, .slice none 0 0, .slice none 0 0] 46) = wz at HB0 HX0 ⊢
    go_loopw [9, 10, 11, 19] (fun _ _ _ iv wr => ∃ (i : Nat) (r : RoomD) (q : Room5), iv = .int .i64 (i : Int) ∧ i ≤ 5 ∧ Hid (efold d s b m n (fs.drop i) i r = O) ∧ Hid (Box5 wr w.heap.size (.string (ba r.1)) (.string (ba r.2.1)) (.int .i64 r.2.2.1) (.slice q.a1 r.2.2.2.1.length q.c1) (.slice q.a2 r.2.2.2.2.length q.c2)) ∧ Hid (RoomIn wr (fun k => w.heap.size < k ∧ k < wr.heap.size) r q) ∧ Hid (Below w.heap.size w wr)) (fun _ _ _ iv _ => 5 - (RowKit.intOf iv).toNat)
    case atStart => exact ⟨0, zeroR, ⟨none, 0, none, 0⟩, rfl, by omega, hid hOe.out, hid HX0.out, hid (HR0.out _ _), hid HB0.out⟩
    case round =>
      obtain ⟨i, r, q, rfl, hi, hE, hX, hR, hBw⟩ := hrel
      by_cases hlt : i < 5
      · have hlt' : i < fs.length := by omega
        have hltz : (i : Int) < (fs.length : Int) := by omega
        have hst := efold_step d s b m n fs i hlt' r
        rw [hE.out] at hst
        obtain ⟨fb, fo, rfl, hfb, hc0⟩ := HH.out.at_ hlt'
        have hmem : ∃ f ∈ fs, f.1 = fs[i].1 := ⟨_, List.getElem_mem hlt', rfl⟩
        obtain ⟨⟨fx, fcol, fq⟩, hfi⟩ : ∃ f, fs[i] = f := ⟨_, rfl⟩
        rw [hfi] at hst hc0 hmem
        dsimp only at hst hc0 hmem
        obtain ⟨y0, y1, y2⟩ := hc0
        have kc : ∀ o : Nat, wr.cell? ⟨fb, o, none⟩ = w.cell? ⟨fb, o, none⟩ := fun o => hBw.out.cell (p := ⟨fb, o, none⟩) (by show fb < w.heap.size; omega)
        rw [← kc] at y0 y1 y2
        have hxl := hX.out.lt
        have hw1 := (Below.refl wr.heap.size wr).alloc (Nat.le_refl _) (.cells #[.string (ba fx), .int .i64 fcol, .bool fq] 81)
        have e1 := heap_alloc_new wr (.cells #[.string (ba fx), .int .i64 fcol, .bool fq] 81)
        have hs1 : (wr.alloc (.cells #[.string (ba fx), .int .i64 fcol, .bool fq] 81)).heap.size = wr.heap.size + 1 := by simp
        have HW1 := hid hw1
        have HE1 := hid e1
        have HS1 := hid hs1
        have HST := hid hst
        obtain ⟨z, hz⟩ : ∃ z, ba fx = z := ⟨_, rfl⟩
        have HZ := hid hz
        rw [hz] at y0 HW1 HE1 HS1
        clear hst kc hfi hw1 e1 hs1 hz hE
        go_wp2_with fail
        generalize wr.alloc (.cells #[.string z, .int .i64 fcol, .bool fq] 81) = w1 at HW1 HE1 HS1 ⊢
        have hX1 := hX.out.below HW1.out hxl
        have hR1 : RoomIn w1 (fun k => w.heap.size < k ∧ k < w1.heap.size) r q := (hR.out.kept (fun k hk => HW1.out.block k hk.2)).mono (fun k hk => ⟨hk.1, by rw [HS1.out]; omega⟩)
        have hB1 := hBw.out.trans (HW1.out.mono hBw.out.size)
        have cF := HF.out w1 w.heap.size i fx r q hB1 (Nat.le_refl _) hlt hmem hX1 hR1
        rw [HZ.out] at cF
        have CF := hid cF
        clear cF hX1 hR1 hX hR hmem
        refine CF.out.mono ?_
        rintro e w2 ⟨rfl, ⟨q', hX2, hR2⟩, hg2⟩
        obtain ⟨⟨r', e2⟩, hse⟩ : ∃ S, setF d s b m n i fx r = S := ⟨_, rfl⟩
        rw [hse] at hX2 hR2 HST ⊢
        dsimp only at hX2 hR2 HST ⊢
        have HX2 := hid hX2
        have HR2 := hid hR2
        have HG2 := hid hg2
        clear hX2 hR2 hg2
        have hlt1 : w.heap.size < w1.heap.size := by rw [HS1.out]; omega
        have hBend : Below w.heap.size w w2 := (hBw.out.trans (HW1.out.mono hBw.out.size)).grown HG2.out (by omega) (fun k e => by injection e; omega)
        have HBE := hid hBend
        clear hBend
        by_cases h2 : e2 = 0
        · subst h2
          have hst := HST.out
          simp only [ne_eq, not_true, if_false] at hst
          have HN := hid hst.symm
          clear hst
          go_wp2
          exact ⟨⟨i + 1, r', q', rfl, by omega, HN, HX2, HR2, HBE⟩, by simp [RowKit.intOf]; omega⟩
        · have hst := HST.out
          rw [if_pos h2] at hst
          have hfr : w2.heap[wr.heap.size]? = some (.cells #[.string z, .int .i64 fcol, .bool fq] 81 (0, 0)) := (HG2.out.block wr.heap.size (by rw [HS1.out]; omega) (fun e => by injection e; omega)).trans HE1.out
          have c1 : w2.cell? ⟨wr.heap.size, 1, none⟩ = some (.int .i64 fcol) := by rw [Lib.cell_of_heap hfr]; rfl
          obtain ⟨y0', y1', y2', y3', y4'⟩ := HX2.out.cells
          have f0 := HX2.out.free 0
          have f1 := HX2.out.free 1
          have f2 := HX2.out.free 2
          have f3 := HX2.out.free 3
          have f4 := HX2.out.free 4
          have HST2 := hid hst
          clear hst hfr
          go_wp2
          go_region
          go_wp2
          obtain ⟨W5, h5⟩ : ∃ W5, W5 = ((((w2.setCell ⟨w.heap.size, 0, none⟩ (.string (ba r'.1))).setCell ⟨w.heap.size, 1, none⟩ (.string (ba r'.2.1))).setCell ⟨w.heap.size, 2, none⟩ (.int .i64 r'.2.2.1)).setCell ⟨w.heap.size, 3, none⟩ (.slice q'.a1 r'.2.2.2.1.length q'.c1)).setCell ⟨w.heap.size, 4, none⟩ (.slice q'.a2 r'.2.2.2.2.length q'.c2) := ⟨_, rfl⟩
          rw [← h5]
          obtain ⟨k1, k2, k3⟩ := five_put HX2.out HR2.out HBE.out h5
          clear h5
          have k1' : Box5 W5.drew w.heap.size _ _ _ _ _ := k1.kept rfl
          have k2' : RoomIn W5.drew (fun k => w.heap.size < k ∧ k < W5.drew.heap.size) r' q' := k2.kept (fun _ _ => rfl)
          refine entry_end (r := r') (q := q') ?_ ?_ ?_ ?_ k1' k2' k3.drew HST2.out
          all_goals rfl
      · have : i = 5 := by omega
        subst this
        have hdrop : fs.drop 5 = [] := List.drop_eq_nil_of_le (by omega)
        have hOf := hE.out
        rw [hdrop] at hOf
        obtain ⟨y0', y1', y2', y3', y4'⟩ := hX.out.cells
        have f0 := hX.out.free 0
        have f1 := hX.out.free 1
        have f2 := hX.out.free 2
        have f3 := hX.out.free 3
        have f4 := hX.out.free 4
        go_wp2
        obtain ⟨W5, h5⟩ : ∃ W5, W5 = ((((wr.setCell ⟨w.heap.size, 0, none⟩ (.string (ba r.1))).setCell ⟨w.heap.size, 1, none⟩ (.string (ba r.2.1))).setCell ⟨w.heap.size, 2, none⟩ (.int .i64 r.2.2.1)).setCell ⟨w.heap.size, 3, none⟩ (.slice q.a1 r.2.2.2.1.length q.c1)).setCell ⟨w.heap.size, 4, none⟩ (.slice q.a2 r.2.2.2.2.length q.c2) := ⟨_, rfl⟩
        rw [← h5]
        obtain ⟨k1, k2, k3⟩ := five_put hX.out hR.out hBw.out h5
        clear h5
        refine entry_end (r := r) (q := q) ?_ ?_ ?_ ?_ k1 k2 k3 (by rw [← hOf]; rfl)
        all_goals rfl
  · have hn5 : ((fs.length : Int) != 5) = true := by simp; omega
    have hOf : O = (zeroR, 0, 9) := by rw [← hO]; unfold entryM; rw [if_pos h5]
    have hR0 : RoomIn (w.alloc (.cells #[.string ⟨#[]⟩, .string ⟨#[]⟩, .int .i64 0, .slice none 0 0, .slice none 0 0] 46)) (fun k => w.heap.size < k ∧ k < (w.alloc (.cells #[.string ⟨#[]⟩, .string ⟨#[]⟩, .int .i64 0, .slice none 0 0, .slice none 0 0] 46)).heap.size) zeroR ⟨none, 0, none, 0⟩ := hr0 _ _
    have HB0 := hid hb0
    have HX0 := hid hx0
    have HR1 := hid hR0
    clear h hF hr0 hO hb0 hx0 hR0
    go_enter Tryz.func59, Tryz.ntmps59
    go_wp2
    refine entry_end (r := zeroR) (q := ⟨none, 0, none, 0⟩) ?_ ?_ ?_ ?_ HX0.out HR1.out HB0.out hOf
    all_goals rfl
end Go.Proofs.YteckefolakjafaaGreatDoor

namespace Go.Proofs
open Go.Shelf
def Tryz.lays190_ren : Go.Shelf.Ren := ⟨fun | 190 => 86 | 125 => 109 | 258 => 108 | 128 => 148 | 129 => 149 | 302 => 139 | 303 => 140 | 304 => 141 | 305 => 142 | 306 => 143 | 307 => 144 | 308 => 145 | 309 => 146 | 310 => 147 | 333 => 176 | 329 => 177 | 330 => 178 | 334 => 179 | 335 => 180 | 336 => 181 | 344 => 196 | n => n, fun | 31 => 43 | 9 => 9 | 3 => 3 | 46 => 112 | 0 => 0 | 51 => 183 | 53 => 160 | 4 => 4 | 183 => 177 | 182 => 176 | 131 => 97 | 5 => 5 | 218 => 213 | 222 => 217 | 228 => 229 | 229 => 151 | n => n, fun | n => n⟩
theorem Tryz.lays190 : Go.Proofs.Lays.n190 Tryz.prog Tryz.lays190_ren := {
  mixed := by kernel_rfl
  f125 := Tryz.func109.trans (congrArg some (by kernel_rfl))
  f128 := Tryz.func148.trans (congrArg some (by kernel_rfl))
  f129 := Tryz.func149.trans (congrArg some (by kernel_rfl))
  f190 := Tryz.func86.trans (congrArg some (by kernel_rfl))
  f258 := Tryz.func108.trans (congrArg some (by kernel_rfl))
  f302 := Tryz.func139.trans (congrArg some (by kernel_rfl))
  f303 := Tryz.func140.trans (congrArg some (by kernel_rfl))
  f304 := Tryz.func141.trans (congrArg some (by kernel_rfl))
  f305 := Tryz.func142.trans (congrArg some (by kernel_rfl))
  f306 := Tryz.func143.trans (congrArg some (by kernel_rfl))
  f307 := Tryz.func144.trans (congrArg some (by kernel_rfl))
  f308 := Tryz.func145.trans (congrArg some (by kernel_rfl))
  f309 := Tryz.func146.trans (congrArg some (by kernel_rfl))
  f310 := Tryz.func147.trans (congrArg some (by kernel_rfl))
  f329 := Tryz.func177.trans (congrArg some (by kernel_rfl))
  f330 := Tryz.func178.trans (congrArg some (by kernel_rfl))
  f333 := Tryz.func176.trans (congrArg some (by kernel_rfl))
  f334 := Tryz.func179.trans (congrArg some (by kernel_rfl))
  f335 := Tryz.func180.trans (congrArg some (by kernel_rfl))
  f336 := Tryz.func181.trans (congrArg some (by kernel_rfl))
  f344 := Tryz.func196.trans (congrArg some (by kernel_rfl))
  t0 := Tryz.underlying0
  a0 := Tryz.isAgg0
  z0 := Tryz.sizeOf0
  v0 := Tryz.zeroValue0
  t3 := Tryz.underlying3
  a3 := Tryz.isAgg3
  z3 := Tryz.sizeOf3
  v3 := Tryz.zeroValue3
  t4 := Tryz.underlying4
  a4 := Tryz.isAgg4
  z4 := Tryz.sizeOf4
  v4 := Tryz.zeroValue4
  t5 := Tryz.underlying5
  a5 := Tryz.isAgg5
  z5 := Tryz.sizeOf5
  v5 := Tryz.zeroValue5
  t9 := Tryz.underlying9
  a9 := Tryz.isAgg9
  z9 := Tryz.sizeOf9
  v9 := Tryz.zeroValue9
  t31 := Tryz.underlying43
  a31 := Tryz.isAgg43
  z31 := Tryz.sizeOf43
  v31 := Tryz.zeroValue43
  t46 := Tryz.underlying112
  a46 := Tryz.isAgg112
  z46 := Tryz.sizeOf112
  v46 := Tryz.zeroValue112
  t51 := Tryz.underlying183
  a51 := Tryz.isAgg183
  z51 := Tryz.sizeOf183
  v51 := Tryz.zeroValue183
  t53 := Tryz.underlying160
  a53 := Tryz.isAgg160
  z53 := Tryz.sizeOf160
  v53 := Tryz.zeroValue160
  t131 := Tryz.underlying97
  a131 := Tryz.isAgg97
  z131 := Tryz.sizeOf97
  v131 := Tryz.zeroValue97
  t182 := Tryz.underlying176
  a182 := Tryz.isAgg176
  z182 := Tryz.sizeOf176
  v182 := Tryz.zeroValue176
  t183 := Tryz.underlying177
  a183 := Tryz.isAgg177
  z183 := Tryz.sizeOf177
  v183 := Tryz.zeroValue177
  t218 := Tryz.underlying213
  a218 := Tryz.isAgg213
  z218 := Tryz.sizeOf213
  v218 := Tryz.zeroValue213
  t222 := Tryz.underlying217
  a222 := Tryz.isAgg217
  z222 := Tryz.sizeOf217
  v222 := Tryz.zeroValue217
  t228 := Tryz.underlying229
  a228 := Tryz.isAgg229
  z228 := Tryz.sizeOf229
  v228 := Tryz.zeroValue229
  t229 := Tryz.underlying151
  a229 := Tryz.isAgg151
  z229 := Tryz.sizeOf151
  v229 := Tryz.zeroValue151 }
end Go.Proofs

