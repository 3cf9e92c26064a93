/-
  Reading a list of times: readTimes of the program. Conditions: the variables hold what their text lays; the text is below 2^32 bytes. What holds while entries .. Conditions: as stated.
-/
import Derived.Test.YtnpfmoalgphkcaaGreatDoorMM01
import Derived.Test.YtnpfmoalgphkcaaGreatDoorMM02
import Derived.Test.YtnpfmoalgphkcaaGreatDoorMM03
import Derived.Test.YtnpfmoalgphkcaaGreatDoorMM04
import Derived.Test.YtnpfmoalgphkcaaGreatDoorMM05
import Derived.Test.YtnpfmoalgphkcaaGreatDoorMM06
import Derived.Test.YtnpfmoalgphkcaaGreatDoorMM07
import Derived.Test.YtnpfmoalgphkcaaGreatDoorMM08
import Derived.Test.YtnpfmoalgphkcaaGreatDoorMM09
import Derived.Test.YtnpfmoalgphkcaaGreatDoorMM10
import Derived.Test.YtnpfmoalgphkcaaGreatDoorMM11
import Derived.Test.YtnpfmoalgphkcaaGreatDoorMM12
import Derived.Test.YtnpfmoalgphkcaaGreatDoorProg
import Derived.WalkKit
import Derived.WalkSpells
import Derived.WalkLawsBesides
import Derived.Lib.Hide
import Derived.Deep.QuietTactic
import Derived.BigQuiet
import Derived.Laws.Rows
import Derived.OwnWalk
import Derived.Lib.BufferWrite
import Derived.Lib.UnsafeStr
import Derived.Laws.IdiomStrings
import Derived.Laws.BytesArg
import Derived.Laws.BytesString
import Derived.Laws.OwnMore
import Derived.Lib.IndexLaws
import Derived.Lib.ItoaNum
import Derived.Lib.Atoi
import Derived.Lib.Bytealg
import Derived.Maps.OwnSet
import Derived.Maps.Range
import Derived.Deep.RegionLaw
import Derived.Deep.RegionHeld3
import Derived.Handy
import Derived.Laws.BitsAllLaws
import Derived.Laws.BitsLemmas
import Derived.Deep.MidRow
import Derived.Shelf.Strings.Builder1
import Derived.Shelf.Strings.Builder2
import Derived.Shelf.Strings.OnBuilder
import Derived.Shelf.Strings.BuilderF
import Derived.Shelf.Strings.BuilderK
import Derived.Shelf.Strings.Builder2Cap
import Derived.Shelf.Strconv.Atoi
import Derived.Shelf.Strconv.Itoa0
import Derived.Shelf.Strconv.Itoa1
import Derived.Shelf.LaysM
import Derived.Shelf.Strconv.Itoa2
import Derived.Shelf.Strconv.Itoa3
import Derived.Shelf.Strconv.AtoiErrFast
import Derived.Shelf.Strconv.ParseIntEmpty
import Derived.Shelf.Strconv.AtoiFail
import Derived.Shelf.Strconv.Clone
import Derived.Shelf.Strconv.SyntaxError
import Derived.Shelf.LaysC
import Derived.Shelf.Strconv.ToError
import Derived.Shelf.Strconv.AtoiErr
import Derived.Shelf.Strings.Search1
import Derived.Shelf.Strings.Search2
import Derived.Shelf.Strings.Search3
import Derived.Shelf.Strings.Cut
import Derived.Shelf.Strings.Shaped
import Derived.Shelf.Strings.Prefix
import Derived.Shelf.Unicode.DecodeSlow
import Derived.Shelf.Strings.BuilderCap
import Derived.Lib.AtoiErrMem
import Derived.RangeFuncNested
import Derived.RangeFuncBound
import Derived.RangeFuncCalls
import Derived.RangeFuncLeaves
import Derived.Shelf.Abstract
import Derived.Shelf.RegionOpen
import Derived.OwnWalkIn
import Derived.Lib.SlTrimSet
import Derived.Shelf.Strings.SlTrimAscii
import Derived.Laws.ResultCell
import Derived.RegionTactic
import Derived.Lib.Repeat
import Derived.Lib.SlicesS
import Derived.TacticsInMore
import Derived.LoopNIn
import Derived.LoopIn
import Derived.Deep.DeepCutAuto
import Derived.Lib.Join
import Derived.Laws.Concat
import Derived.Sort.EncStr
set_option linter.unusedVariables false
namespace Go.Proofs.YtnpfmoalgphkcaaGreatDoor
open Go Go.Proofs Go.RowKit Go.Lib
attribute [local go_sem] Oper.semAt_some
def TimesOut (r : List TimeD × Int) (w : World) (e : Ending) (w' : World) : Prop := (∃ v, e = .returned (.tuple #[v, .int .i64 r.2]) ∧ TimeRow w' w.heap.size v r.1) ∧ Below w.heap.size w w'
theorem timeRow_slice {w : World} {B : Nat} {v : Value} {l : List TimeD} (h : TimeRow w B v l) : ∃ A c, v = .slice A l.length c := by
  rcases h.2 with ⟨hv, h0⟩ | ⟨g, cap, cur, hv, _⟩
  · exact ⟨none, 0, by rw [hv, h0]⟩
  · exact ⟨_, cap, hv⟩
theorem TimeRow.mono {w : World} {B B' : Nat} {v : Value} {l : List TimeD} (h : TimeRow w B v l) (hB : B' ≤ B) : TimeRow w B' v l := by
  obtain ⟨h1, h2⟩ := h
  refine ⟨h1, ?_⟩
  rcases h2 with h2 | ⟨g, cap, cur, hv, hg, r⟩
  · exact .inl h2
  · exact .inr ⟨g, cap, cur, hv, Nat.le_trans hB hg, r⟩
theorem loadTimes {w : World} {k : Nat} {x : Value} (h0 : w.cell? ⟨k, 0, none⟩ = some x) : (loadVar 32 ⟨k, 0, none⟩).run Tryz.prog w = .ok x w := by
  simp [loadVar, go_sem, h0]
set_option maxHeartbeats 8000000 in
set_option maxRecDepth 100000 in
theorem readTimes_any (d s b m n : Int) (x : ByteArray) (hs : x.size < 4294967281) (w : World) (hE : Env7 w) :
    Calls Tryz.prog 72 #[.string x, .agg #[.int .i64 d, .int .i64 s, .int .i64 b, .int .i64 m], .int .i64 n] w (TimesOut (timesM d s b m n (lst x)) w) := by
  refine (callsIn_wide (n := 9)).1 ?_
  refine callsIn_of_wp_marks Tryz.func72 rfl trivial ?_ rfl
  simp only [Tryz.ntmps72, List.size_toArray, List.length_cons, List.length_nil, Nat.reduceAdd, Nat.reduceSub, Array.replicate_succ, Array.replicate_zero, List.push_toArray, List.append_toArray, List.nil_append, List.cons_append]
  by_cases h0 : 0 < x.size
  · obtain ⟨x1, x2, x3, x4⟩ := str_no h0
    have hne : lst x ≠ [] := fun e => by rw [Lib.size_eq, show x.data.toList = lst x from rfl, e] at h0; simp at h0
    gi_wp2_with fail
    refine ⟨trivial, ?_⟩
    refine (callsIn_wide.2 (S3.splitSeq_any x _)).mono ?_
    rintro e w' ⟨rfl, rfl⟩
    gi_wp2
    obtain ⟨W0, hW0⟩ : ∃ W0, ((((((((w.alloc (Obj.cells #[.int .i64 d, .int .i64 s, .int .i64 b, .int .i64 m] 24)).alloc (Obj.cells #[.int .i64 n] 3)).alloc (Obj.cells #[Value.slice none 0 0] 32)).alloc (Obj.cells #[Value.int IntKind.i64 0] 28)).alloc (Obj.cells #[Value.slice none 0 0] 32)).alloc (Obj.cells #[Value.string x] 9)).alloc (Obj.cells #[Value.string { data := #[59] }] 9)).alloc (Obj.cells #[Value.int IntKind.i64 0] 3)) = W0 := ⟨_, rfl⟩
    rw [hW0]
    have hI0 : TInv w.heap.size w d s b m n ([], x) W0 := by
      rw [← hW0]
      refine ⟨?_, by simp, ?_, ?_, ?_, ?_, ⟨.slice none 0 0, ?_, World.ownsRow_nil _ _ _ _⟩, ?_, ?_, ?_, rfl⟩
      rotate_left
      · have hb : Below (w.heap.size + 1) (w.alloc (Obj.cells #[.int .i64 d, .int .i64 s, .int .i64 b, .int .i64 m] 24)) _ := (((((((Below.refl _ _).alloc (by simp) (.cells #[.int .i64 n] 3)).alloc (by simp) (.cells #[.slice none 0 0] 32)).alloc (by simp) (.cells #[.int .i64 0] 28)).alloc (by simp) (.cells #[.slice none 0 0] 32)).alloc (by simp) (.cells #[.string x] 9)).alloc (by simp) (.cells #[.string ⟨#[59]⟩] 9)).alloc (by simp) (.cells #[.int .i64 0] 3)
        exact (hb.block _ (by omega)).trans (heap_alloc_new w _)
      rotate_right
      · exact ((((((((Below.refl _ w).alloc (Nat.le_refl _) _).alloc (by simp) _).alloc (by simp; omega) _).alloc (by simp; omega) _).alloc (by simp; omega) _).alloc (by simp; omega) _).alloc (by simp; omega) _).alloc (by simp; omega) _
      · exact ((((((S3.box_at (by simp) 3 _).alloc _).alloc _).alloc _).alloc _).alloc _).alloc _
      · exact (((((S3.box_at (by simp) 32 _).alloc _).alloc _).alloc _).alloc _).alloc _
      · exact ((((S3.box_at (by simp) 28 _).alloc _).alloc _).alloc _).alloc _
      · exact (((S3.box_at (by simp) 32 _).alloc _).alloc _).alloc _
      · exact ((S3.box_at (by simp) 9 _).alloc _).alloc _
      · exact (S3.box_at (by simp) 9 _).alloc _
      · exact S3.box_at (by simp) 3 _
    have hz0 : w.heap.size + 8 ≤ W0.heap.size := hI0.size
    have hEv := hE.e.size
    clear hW0
    refine S3.range_own (by omega) (gf := 125) (lb := #[.pointer (some ⟨w.heap.size + 5 + 1, 0, none⟩), .pointer (some ⟨w.heap.size + 5, 0, none⟩), .pointer (some ⟨w.heap.size + 5 + 2, 0, none⟩)]) rfl (enters_of Tryz.func125 (by kernel_rfl) rfl) (w.heap.size + 5) (by omega)
      (fun st y => ∃ rest, S3.splitL (lst x) = st.1 ++ lst y :: rest) (fun st y => (st.1 ++ [lst y], st.2)) (fun st => st.1 = S3.splitL (lst x)) (TInv w.heap.size w d s b m n) (TErr w.heap.size w d s b m n (lst x)) ([], x)
      (S3.split_iter _ (w.heap.size + 5) x (by omega) _ (fun st W h => h.vars) (fun st r W h => h.turn (Nat.le_refl _) r)) rfl (TInv.own (Nat.le_refl _) hz0) (TErr.own (Nat.le_refl _) hz0) hI0
      (fun y => { tmps := #[.string x, .agg #[.int .i64 d, .int .i64 s, .int .i64 b, .int .i64 m], .int .i64 n, undef, .pointer (some ⟨w.heap.size, 0, none⟩), .pointer (some ⟨w.heap.size + 1, 0, none⟩), .pointer (some ⟨w.heap.size + 1 + 1, 0, none⟩), .pointer (some ⟨w.heap.size + 1 + 1 + 1, 0, none⟩), .pointer (some ⟨w.heap.size + 1 + 1 + 1 + 1, 0, none⟩),
        .string y, undef, undef, .string x, .bool false, .string x, .func (.func 125) #[] #[.pointer (some ⟨w.heap.size + 1 + 1 + 1 + 1 + 1 + 1, 0, none⟩), .pointer (some ⟨w.heap.size + 1 + 1 + 1 + 1 + 1, 0, none⟩), .pointer (some ⟨w.heap.size + 1 + 1 + 1 + 1 + 1 + 2, 0, none⟩)],
        .string y, undef, undef, undef, undef, undef, undef, undef, undef, undef, undef, undef, undef, undef, undef, undef, undef, undef, undef], defers := [] }) ?assign ?body ?done ?stop
    case assign =>
      intro l y W K hK
      gi_wp2
      exact hK
    case body =>
      rintro l ⟨pre, r⟩ y W hI ⟨rest, hrest⟩
      obtain ⟨v, hv, hrow⟩ := hI.acc
      have hok := hI.ok
      dsimp only at hrow hok hrest ⊢
      have hxs : y.size < 4294967281 := by
        have := S3.splitL_mem (lst x) (lst y) (by rw [hrest]; simp)
        rw [show (lst y).length = y.size from (Lib.size_eq y).symm, show (lst x).length = x.size from (Lib.size_eq x).symm] at this
        omega
      obtain ⟨L, hL⟩ : ∃ L, (tgo d s b m n pre []).1 = L := ⟨_, rfl⟩
      have hgo : ∀ qs, tgo d s b m n (pre ++ qs) [] = tgo d s b m n qs L := fun qs => by rw [tgo_app d s b m n _ _ _ hok, hL]
      have hlen : L.length = pre.length := by rw [← hL, tgo_len d s b m n pre [] hok]; simp
      have hpl : pre.length ≤ 4294967281 := by
        have h1 := splitL_len (lst x)
        rw [hrest, List.length_append, show (lst x).length = x.size from (Lib.size_eq x).symm] at h1
        omega
      rw [hL] at hrow
      have hB := hI.below
      have hEW : Env7 W := hE.below hB (Nat.le_refl _)
      have cP := tparse_any d s b m n y (by omega) W hEW.e hEW.d
      obtain ⟨⟨⟨t1, t2, t3, t4⟩, e2⟩, hR⟩ : ∃ R, timeM d s b m n (lst y) = R := ⟨_, rfl⟩
      rw [hR] at cP
      unfold TimeOut at cP
      dsimp only at cP
      have c0 : W.cell? ⟨w.heap.size, 0, none⟩ = some (.int .i64 d) := by rw [Lib.cell_of_heap hI.g]; rfl
      have c1 : W.cell? ⟨w.heap.size, 1, none⟩ = some (.int .i64 s) := by rw [Lib.cell_of_heap hI.g]; rfl
      have c2 : W.cell? ⟨w.heap.size, 2, none⟩ = some (.int .i64 b) := by rw [Lib.cell_of_heap hI.g]; rfl
      have c3 : W.cell? ⟨w.heap.size, 3, none⟩ = some (.int .i64 m) := by rw [Lib.cell_of_heap hI.g]; rfl
      have c4 := hI.n1.cell
      obtain ⟨A, c, hvA⟩ := timeRow_slice hrow
      subst hvA
      have HRow := hid hrow
      have HGo := hid hgo
      have HOk := hid hok
      have HLen := hid hlen
      have CP := hid cP
      clear hrow hgo hL hok hEW hlen cP
      by_cases h2 : e2 = 0
      · subst h2
        gi_wp2_with fail
        refine ⟨trivial, ?_⟩
        refine (CallsIn.inRound l (callsIn_wide.2 CP.out)).mono ?_
        rintro e W2 ⟨rfl, hb2⟩
        obtain ⟨o, ho⟩ : ∃ o, (Obj.cells #[.int .i64 t1, .int .i64 t2, .int .i64 t3, .int .i64 t4] 26) = o := ⟨_, rfl⟩
        have hv2 := (S3.Boxed.under hv hb2).alloc o
        have hB4 := Box4.new W2 t1 t2 t3 t4 26
        rw [ho] at hB4
        have hcell2 := hv2.cell
        have d0 := hB4.c0
        have d1 := hB4.c1
        have d2 := hB4.c2
        have d3 := hB4.c3
        have hsz6 : w.heap.size + 8 ≤ W2.heap.size := by have := hI.size; have := hb2.size; omega
        subst ho
        obtain ⟨i9, hi9, hz9, hsi9, hby9⟩ := info_parts infoTime
        obtain ⟨W4, hW4⟩ : ∃ W4, W4 = (W2.alloc (.cells #[.int .i64 t1, .int .i64 t2, .int .i64 t3, .int .i64 t4] 26)).alloc (.cells #[.int .i64 t1, .int .i64 t2, .int .i64 t3, .int .i64 t4] 26) := ⟨_, rfl⟩
        have hb4 : Below W.heap.size W W4 := hW4 ▸ ((hb2.alloc hb2.size _).alloc (by have := hb2.size; simp; omega) _)
        have hrow4 : TimeRow W4 (w.heap.size + 8) (.slice A L.length c) L := row_under HRow.out hb4
        have hv4 : Boxed W4 (w.heap.size + 4) 32 (.slice A L.length c) := S3.Boxed.under hv hb4
        have hsz4 : w.heap.size + 8 ≤ W4.heap.size := by have := hI.size; have := hb4.size; omega
        have hmx : L.length + 1 ≤ maxLen := by rw [HLen.out]; unfold maxLen; omega
        have hby : (L.length + 1) * 32 ≤ 140737488355328 := by rw [HLen.out]; omega
        have hn4 : ∀ (j : Nat) (u : Value), (timeVs (t1, t2, t3, t4))[j]? = some u → W4.cell? ((⟨W2.heap.size + 1, 0, none⟩ : Addr).add j) = some u := by
          have := four_new (W2.alloc (.cells #[.int .i64 t1, .int .i64 t2, .int .i64 t3, .int .i64 t4] 26)) t1 t2 t3 t4 26
          rw [hW4]
          simpa using this
        have HRow4 := hid hrow4
        have HMx := hid hmx
        have HBy := hid hby
        have H6 := hid hsz4
        have HN := hid hn4
        have HV4 := hid hv4
        have HB4 := hid hb4
        clear hrow4 hmx hby hsz4 hn4 hv4 hb4
        gi_wp2_with (gi_at_builtin; rw [← hW4]; refine wpListIn_append_own _ rfl _ _ 32 rfl (w.heap.size + 8) 26 i9 (.agg #[.int .i64 0, .int .i64 0, .int .i64 0, .int .i64 0]) 4 32 Tryz.underlying32 hi9 hz9 hsi9 hby9 rfl (by decide) _ L.length (timeVals L) rfl HRow4.out ⟨W2.heap.size + 1, 0, none⟩ 1 1 (timeVs (t1, t2, t3, t4)) rfl rfl HN.out (times_one _) HMx.out HBy.out H6.out ?_)
        intro v' w3 hown' hgrow _
        rw [← hW4] at hgrow
        obtain ⟨g', cap', rfl⟩ := ownsRow_succ (k := L.length) hown'
        have hv3 : Boxed w3 (w.heap.size + 4) 32 (.slice A L.length c) := HV4.out.kept hgrow (fun e => by have := World.ownsRow.lt HRow4.out _ e.symm; omega)
        have hcell3 := hv3.cell
        have hfz3 := hv3.frozen
        have hown2 : TimeRow w3 (w.heap.size + 8) (.slice (some ⟨g', 0, none⟩) (L.length + 1) cap') (L ++ [(t1, t2, t3, t4)]) := by
          unfold TimeRow
          rw [timeVals_app, List.length_append]
          simpa [timeVals] using hown'
        have HOW := hid hown2
        have HGW := hid hgrow
        clear hown' hown2 hgrow
        gi_wp2
        obtain ⟨i1, i2⟩ := TInv.step hI (Nat.le_refl _) HB4.out hv HRow4.out HGW.out HOW.out (x := lst y) (by rw [HGo.out]; simp [tgo, hR]) W0.heap.size
        exact ⟨i2, i1⟩
      · have hgo2 : tgo d s b m n (S3.splitL (lst x)) [] = ([], e2) := by rw [hrest, HGo.out]; simp [tgo, hR, h2]
        have HGo2 := hid hgo2
        clear hgo2
        gi_wp2_with fail
        refine ⟨trivial, ?_⟩
        refine (CallsIn.inRound l (callsIn_wide.2 CP.out)).mono ?_
        rintro e W2 ⟨rfl, hb2⟩
        have k1 := (S3.Boxed.under hI.r1 hb2).alloc (Obj.cells #[.int .i64 t1, .int .i64 t2, .int .i64 t3, .int .i64 t4] 26)
        have k2 := (S3.Boxed.under hI.r2 hb2).alloc (Obj.cells #[.int .i64 t1, .int .i64 t2, .int .i64 t3, .int .i64 t4] 26)
        have f1 := k1.frozen
        have f2 := k2.frozen
        have g1 := k1.cell
        have g2 := k2.cell
        gi_wp2
        have hb3 : Below W.heap.size W (W2.alloc (Obj.cells #[.int .i64 t1, .int .i64 t2, .int .i64 t3, .int .i64 t4] 26)) := hb2.alloc hb2.size _
        obtain ⟨W5, hW5⟩ : ∃ W5, W5 = W2.alloc (Obj.cells #[.int .i64 t1, .int .i64 t2, .int .i64 t3, .int .i64 t4] 26) := ⟨_, rfl⟩
        rw [← hW5] at hb3 k1 k2 ⊢
        clear hW5
        have q1 := grownBy_setCell' W5 (w.heap.size + 2) (.slice none 0 0)
        have q2 := grownBy_setCell' (W5.setCell ⟨w.heap.size + 2, 0, none⟩ (.slice none 0 0)) (w.heap.size + 3) (.int .i64 e2)
        have hne' : ∀ a b : Nat, a ≠ b → some a ≠ some b := fun a b h e => h (by injection e)
        refine ⟨(((S3.keeps_below hb3).trans (KeepsOthers.setCell _ _ _)).trans (KeepsOthers.setCell _ _ _)).from _, ⟨?_, e2, by rw [HGo2.out], h2, (k1.set _).kept q2 (hne' _ _ (by omega)), (k2.kept q1 (hne' _ _ (by omega))).set _⟩⟩
        have hz2 := hb3.size
        have hzW := hI.size
        exact ((hB.trans (hb3.mono (by omega))).grown q1 (by omega) (fun k e => by injection e; omega)).grown q2 (by have := q1.size; omega) (fun k e => by injection e; omega)
    case done =>
      rintro D ⟨pre, r⟩ W hD hfin hI hK
      obtain ⟨v, hv, hrow⟩ := hI.acc
      have hok := hI.ok
      dsimp only at hfin hrow hok
      rw [hfin] at hrow hok
      obtain ⟨A, c, hvA⟩ := timeRow_slice hrow
      subst hvA
      have hM : timesM d s b m n (lst x) = if 24 < (tgo d s b m n (S3.splitL (lst x)) []).1.length then ([], 2) else ((tgo d s b m n (S3.splitL (lst x)) []).1, 0) := by
        unfold timesM
        rw [if_neg hne, if_neg (by rw [hok]; simp)]
      obtain ⟨L, hL⟩ : ∃ L, (tgo d s b m n (S3.splitL (lst x)) []).1 = L := ⟨_, rfl⟩
      rw [hL] at hM hrow hv
      have hcell := hv.cell
      have f1 := hI.r1.frozen
      have f2 := hI.r2.frozen
      have g1 := hI.r1.cell
      have g2 := hI.r2.cell
      have hBelow := hI.below
      have HRow := hid hrow
      clear hrow hL hok
      by_cases hk : 24 < L.length
      · rw [if_pos hk] at hM
        have hk' : decide ((24 : Int) < (L.length : Int)) = true := decide_eq_true (by omega)
        gi_wp2
        obtain ⟨k0, k1, k2, k3, k4⟩ := times_end (v := .slice none 0 0) (e := .int .i64 2) hI.r1 hI.r2 (D := D) (by omega) hK
        refine ⟨by simp, .inl ⟨_, _, rfl, run_takeDeferred k0, ?_⟩⟩
        refine ⟨_, results_cc rfl _ _ _ _ _ _ _ rfl rfl (loadTimes k1.cell) (S3.loadErr k2.cell), ?_⟩
        rw [hM]
        exact ⟨⟨_, rfl, World.ownsRow_nil _ _ _ _⟩, hBelow.trans k3⟩
      · rw [if_neg hk] at hM
        have hk' : decide ((24 : Int) < (L.length : Int)) = false := decide_eq_false (by omega)
        gi_wp2
        obtain ⟨k0, k1, k2, k3, k4⟩ := times_end (v := .slice A L.length c) (e := .int .i64 0) hI.r1 hI.r2 (D := D) (by omega) hK
        refine ⟨by simp, .inl ⟨_, _, rfl, run_takeDeferred k0, ?_⟩⟩
        refine ⟨_, results_cc rfl _ _ _ _ _ _ _ rfl rfl (loadTimes k1.cell) (S3.loadErr k2.cell), ?_⟩
        rw [hM]
        exact ⟨⟨_, rfl, TimeRow.mono (k4 _ _ _ HRow.out) (by omega)⟩, hBelow.trans k3⟩
    case stop =>
      rintro D W hD ⟨hb, e, he, hne0, h1, h2⟩ hK
      have hM : timesM d s b m n (lst x) = ([], e) := by
        unfold timesM
        rw [if_neg hne, if_pos (by rw [he]; exact hne0), he]
      have hg3 := grownBy_putObj' W D (.deferred none)
      have hne' : ∀ a b : Nat, a ≠ b → some a ≠ some b := fun a b h e => h (by injection e)
      gi_wp2
      refine ⟨by simp, .inl ⟨_, _, rfl, run_takeDeferred hK, ?_⟩⟩
      refine ⟨_, results_cc rfl _ _ _ _ _ _ _ rfl rfl (loadTimes (h1.kept hg3 (hne' _ _ (by omega))).cell) (S3.loadErr (h2.kept hg3 (hne' _ _ (by omega))).cell), ?_⟩
      rw [hM]
      exact ⟨⟨_, rfl, World.ownsRow_nil _ _ _ _⟩, hb.grown hg3 hb.size (fun k e => by injection e; omega)⟩
  · obtain ⟨x1, x2, x3, x4⟩ := str_yes h0
    have hnil := lst_nil h0
    have hM : timesM d s b m n (lst x) = ([], 0) := by rw [hnil]; rfl
    gi_wp2
    refine ⟨_, results_cc rfl _ _ _ _ _ _ _ rfl rfl (loadTimes (x := .slice none 0 0) ?_) (S3.loadErr (x := .int .i64 0) ?_), ?_⟩
    · exact ((S3.box_at (by simp) 32 _).alloc _).cell
    · exact (S3.box_at (by simp) 28 _).cell
    · rw [hM]
      exact ⟨⟨_, rfl, World.ownsRow_nil _ _ _ _⟩, ((((Below.refl _ w).alloc (Nat.le_refl _) _).alloc (by simp) _).alloc (by simp; omega) _).alloc (by simp; omega) _⟩
section
variable {M : Nat} {w W W' : World} {rs : List RoomD} {ps : List ProbD} {cs cs' : List Str} {v1 v2 : Value}
end
theorem setF_code (d s b m n : Int) (K : Nat) (hK : 0 < K) (i : Nat) (x : Str) (r : RoomD) (hx : x.length < K) (hr : r.1.length < K) : (setF d s b m n i x r).1.1.length < K := by
  match i with
  | 0 => simp only [setF]; split <;> simp_all
  | 1 => simp only [setF]; split <;> simp_all
  | 2 => exact hr
  | 3 => exact hr
  | 4 => exact hr
  | j + 5 => exact hr
theorem efold_code (d s b m n : Int) (K : Nat) (hK : 0 < K) : ∀ (fs : List FieldD) (i : Nat) (r : RoomD), (∀ f ∈ fs, f.1.length < K) → r.1.length < K → (efold d s b m n fs i r).1.1.length < K
  | [], _, r, _, hr => hr
  | f :: fs, i, r, h, hr => by
    unfold efold
    have h1 := setF_code d s b m n K hK i f.1 r (h f (by simp)) hr
    split
    · exact h1
    · exact efold_code d s b m n K hK fs (i + 1) _ (fun g hg => h g (by simp [hg])) h1
theorem entryM_code (d s b m n : Int) (K : Nat) (hK : 0 < K) (fs : List FieldD) (h : ∀ f ∈ fs, f.1.length < K) : (entryM d s b m n fs).1.1.length < K := by
  unfold entryM
  split
  · exact hK
  · exact efold_code d s b m n K hK fs 0 zeroR h hK
end Go.Proofs.YtnpfmoalgphkcaaGreatDoor
namespace Go.Proofs.YtnpfmoalgphkcaaGreatDoor.S9
open Go Go.Proofs Go.RowKit Go.Lib Go.Proofs.YtnpfmoalgphkcaaGreatDoor
structure EInv (M : Nat) (w : World) (rs : List LectD) (ps : List ProbD) (cs : List Str) (v1 v2 : Value) (W : World) : Prop where
  row : ∃ Lr : List (LectD × LectA), Lr.map (·.1) = rs ∧ W.ownsRow w.heap.size 34 2 v1 Lr.length (lectVals Lr) ∧ ∀ p ∈ Lr, LectIn W (fun k => w.heap.size ≤ k ∧ k < W.heap.size ∧ some k ≠ v1.ownBlock ∧ some k ≠ v2.ownBlock) p.1 p.2
  probs : ProbsRow W w.heap.size v2 ps
  map : KMap W M cs
  gr : w.grownBy W (some M)
theorem EInv.start {M : Nat} {w : World} (h : KMap w M []) : EInv M w [] [] [] (.slice none 0 0) (.slice none 0 0) w :=
  ⟨⟨[], rfl, World.ownsRow_nil _ _ _ _, fun p hp => by simp at hp⟩, World.ownsRow_nil _ _ _ _, h, grown_none (below_grown (Below.refl _ w) (Nat.le_refl _))⟩
theorem EInv.below {M : Nat} {w W : World} {rs : List LectD} {ps : List ProbD} {cs : List Str} {v1 v2 : Value} (h : EInv M w rs ps cs v1 v2 W) (hM : M < w.heap.size) : Below M w W :=
  ⟨h.gr.os, h.gr.tape, h.gr.output, h.gr.size, fun k hk => h.gr.block k (by omega) (fun e => by injection e with e; omega)⟩
section
variable {M : Nat} {w W W' : World} {rs : List LectD} {ps : List ProbD} {cs cs' : List Str} {v1 v2 : Value}
theorem EInv.past (h : EInv M w rs ps cs v1 v2 W) (hM : M < w.heap.size) (hg : W.grownBy W' (some M)) (hk : KMap W' M cs') : EInv M w rs ps cs' v1 v2 W' := by
  obtain ⟨⟨Lr, hL, ho, hr⟩, hp, _, hb⟩ := h
  have hs := hg.size
  have hbs := hb.size
  have e1 : some M ≠ v1.ownBlock := fun e => by have := (own_lt ho M e.symm).1; omega
  have e2 : some M ≠ v2.ownBlock := fun e => by have := (own_lt hp M e.symm).1; omega
  refine ⟨⟨Lr, hL, World.ownsRow.kept ho hg (.inr fun e => e1 e.symm), fun p hp' => ?_⟩, World.ownsRow.kept hp hg (.inr fun e => e2 e.symm), hk, hb.andThen hg (fun j hj => .inr hj)⟩
  exact ((hr p hp').kept (fun k hk => hg.block k hk.2.1 (fun e => by injection e; omega))).mono (fun k hk => ⟨hk.1, by omega, hk.2.2⟩)
theorem EInv.under (h : EInv M w rs ps cs v1 v2 W) (hM : M < w.heap.size) (hb : Below W.heap.size W W') : EInv M w rs ps cs v1 v2 W' :=
  h.past hM (grown_none ⟨hb.os, hb.tape, hb.output, hb.size, fun k hk _ => hb.block k hk⟩) (h.map.below hb)
theorem EInv.prob {v2' : Value} {p : ProbD} (h : EInv M w rs ps cs v1 v2 W) (hM : M < w.heap.size) (hown : ProbsRow W' w.heap.size v2' (ps ++ [p])) (hg : W.grownBy W' v2.ownBlock) (hat : v2'.ownBlock = v2.ownBlock ∨ ∃ k, v2'.ownBlock = some k ∧ W.heap.size ≤ k) : EInv M w rs (ps ++ [p]) cs v1 v2' W' := by
  obtain ⟨⟨Lr, hL, ho, hr⟩, hp, hk, hb⟩ := h
  have hs := hg.size
  have hbs := hb.size
  have e2 : some M ≠ v2.ownBlock := fun e => by have := (own_lt hp M e.symm).1; omega
  refine ⟨⟨Lr, hL, World.ownsRow.kept ho hg (kinds_ne ho hp (by decide)), fun p hp' => ?_⟩, hown, hk.kept hg e2, hb.andThen hg (fun j hj => .inl (own_lt hp j hj).1)⟩
  refine ((hr p hp').kept (fun k hk => hg.block k hk.2.1 hk.2.2.2)).mono (fun k hk => ⟨hk.1, by omega, hk.2.2.1, ?_⟩)
  rcases hat with e | ⟨j, e, hj⟩
  · rw [e]; exact hk.2.2.2
  · rw [e]; intro e0; injection e0 with e0; have := hk.2.1; omega
theorem EInv.room {v1' : Value} {r : LectD} {q : LectA} {C : Nat} (h : EInv M w rs ps cs v1 v2 W) (hM : M < w.heap.size)
    (hr' : LectIn W (fun k => C ≤ k ∧ k < W.heap.size) r q) (hC : w.heap.size ≤ C) (h1 : ∀ k, v1.ownBlock = some k → k < C) (h2 : ∀ k, v2.ownBlock = some k → k < C)
    {Lr : List (LectD × LectA)} (hL : Lr.map (·.1) = rs) (ho : W.ownsRow w.heap.size 34 2 v1 Lr.length (lectVals Lr)) (hr : ∀ p ∈ Lr, LectIn W (fun k => w.heap.size ≤ k ∧ k < W.heap.size ∧ some k ≠ v1.ownBlock ∧ some k ≠ v2.ownBlock) p.1 p.2)
    (hown : W'.ownsRow w.heap.size 34 2 v1' (Lr.length + 1) (lectVals Lr ++ lectVs r q))
    (hg : W.grownBy W' v1.ownBlock) (hat : v1'.ownBlock = v1.ownBlock ∨ ∃ k, v1'.ownBlock = some k ∧ W.heap.size ≤ k) : EInv M w (rs ++ [r]) ps cs v1' v2 W' := by
  obtain ⟨_, hp, hk, hb⟩ := h
  have hs := hg.size
  have hbs := hb.size
  have e1 : some M ≠ v1.ownBlock := fun e => by have := (own_lt ho M e.symm).1; omega
  have hne : ∀ k, k < W.heap.size → some k ≠ v1.ownBlock → some k ≠ v1'.ownBlock := by
    intro k hk hne
    rcases hat with e | ⟨j, e, hj⟩
    · rw [e]; exact hne
    · rw [e]; intro e0; injection e0 with e0; omega
  refine ⟨⟨Lr ++ [(r, q)], by rw [List.map_append, hL]; rfl, ?_, fun p hp' => ?_⟩, World.ownsRow.kept hp hg (kinds_ne hp ho (by decide)), hk.kept hg e1, hb.andThen hg (fun j hj => .inl (own_lt ho j hj).1)⟩
  · rw [lectVals_app, List.length_append, List.length_singleton]
    simpa [lectVals] using hown
  · rcases List.mem_append.1 hp' with hp' | hp'
    · exact ((hr p hp').kept (fun k hk => hg.block k hk.2.1 hk.2.2.1)).mono (fun k hk => ⟨hk.1, by omega, hne k hk.2.1 hk.2.2.1, hk.2.2.2⟩)
    · rw [List.mem_singleton] at hp'
      subst hp'
      have k1 : ∀ k, C ≤ k → some k ≠ v1.ownBlock := fun k hk e => by have := h1 k e.symm; omega
      have k2 : ∀ k, C ≤ k → some k ≠ v2.ownBlock := fun k hk e => by have := h2 k e.symm; omega
      exact (hr'.kept (fun k hk => hg.block k hk.2 (k1 k hk.1))).mono (fun k hk => ⟨by omega, by omega, hne k hk.2 (k1 k hk.1), k2 k hk.1⟩)
end
theorem setF_code (d s b m n : Int) (K : Nat) (hK : 0 < K) (i : Nat) (x : Str) (r : LectD) (hx : x.length < K) (hr : r.1.length < K) : (setF d s b m n i x r).1.1.length < K := by
  match i with
  | 0 => simp only [setF]; split <;> simp_all
  | 1 => exact hr
  | j + 2 => exact hr
theorem efold_code (d s b m n : Int) (K : Nat) (hK : 0 < K) : ∀ (fs : List FieldD) (i : Nat) (r : LectD), (∀ f ∈ fs, f.1.length < K) → r.1.length < K → (efold d s b m n fs i r).1.1.length < K
  | [], _, r, _, hr => hr
  | f :: fs, i, r, h, hr => by
    unfold efold
    have h1 := setF_code d s b m n K hK i f.1 r (h f (by simp)) hr
    split
    · exact h1
    · exact efold_code d s b m n K hK fs (i + 1) _ (fun g hg => h g (by simp [hg])) h1
theorem entryM_code (d s b m n : Int) (K : Nat) (hK : 0 < K) (fs : List FieldD) (h : ∀ f ∈ fs, f.1.length < K) : (entryM d s b m n fs).1.1.length < K := by
  unfold entryM
  split
  · exact hK
  · exact efold_code d s b m n K hK fs 0 zeroR h hK
theorem two_new (w : World) (r : LectD) (q : LectA) : ∀ (j : Nat) (u : Value), (lectVs r q)[j]? = some u → (w.alloc (.cells #[.string (ba r.1), .slice q.1 r.2.length q.2] 34)).cell? ((⟨w.heap.size, 0, none⟩ : Addr).add j) = some u := by
  intro j u h
  obtain ⟨k0, k1⟩ := (Box2.new w (.string (ba r.1)) (.slice q.1 r.2.length q.2)).cells
  rw [Addr.add_lit]
  match j, h with
  | 0, h => exact k0.trans h
  | 1, h => exact k1.trans h
  | j + 2, h => simp [lectVs] at h
theorem lect_one (r : LectD) (q : LectA) : ∀ u ∈ lectVs r q, u.oneCell' = true := by
  intro u hu
  simp [lectVs] at hu
  rcases hu with rfl | rfl <;> rfl
def EntsOut (M : Nat) (o : List LectD × List ProbD) (w : World) (e : Ending) (w' : World) : Prop := ∃ v1 v2, e = .returned (.tuple #[v1, v2]) ∧ EInv M w o.1 o.2 (codesL o.1) v1 v2 w'
theorem tgo_start (d s b m n : Int) : ∀ (ps : List Str) (acc : List TimeD), (∀ t ∈ acc, t.2.2.1 ≤ 9223372036854775807) → ∀ t ∈ (tgo d s b m n ps acc).1, t.2.2.1 ≤ 9223372036854775807
  | [], acc, h => by simpa [tgo] using h
  | p :: ps, acc, h => by
    unfold tgo
    split
    · intro t ht; simp at ht
    · refine tgo_start d s b m n ps _ fun t ht => ?_
      rcases List.mem_append.1 ht with ht | ht
      · exact h t ht
      · rw [List.mem_singleton] at ht
        subst ht
        exact timeM_start d s b m n p
theorem timesM_start (d s b m n : Int) (x : Str) : ∀ t ∈ (timesM d s b m n x).1, t.2.2.1 ≤ 9223372036854775807 := by
  intro t ht
  have h := tgo_start d s b m n (S3.splitL x) [] (fun t ht => by simp at ht)
  unfold timesM at ht
  split at ht
  · simp at ht
  · split at ht
    · simp at ht
    · split at ht
      · simp at ht
      · exact h t ht
set_option maxHeartbeats 2000000 in
theorem lcode_any (s : ByteArray) (w : World) : Calls Tryz.prog 71 #[.string s] w fun e w' => e = .returned (.tuple #[.string (if S3.validC (lst s) = true then s else ⟨#[]⟩), .int .i64 (if S3.validC (lst s) = true then 0 else 10)]) ∧ w' = w := by
  have cV := fun w => S3.valid_any s w
  cases hv : S3.validC (lst s) with
  | false =>
    rw [show s.data.toList = lst s from rfl, hv] at cV
    rw [if_neg (by simp), if_neg (by simp)]
    clear hv
    go_enter Tryz.func71, Tryz.ntmps71
    go_wp2_with fail
    refine (cV _).mono ?_
    rintro e w' ⟨rfl, rfl⟩
    go_wp2
    go_ret2
    exact ⟨rfl, rfl⟩
  | true =>
    rw [show s.data.toList = lst s from rfl, hv] at cV
    rw [if_pos rfl, if_pos rfl]
    clear hv
    go_enter Tryz.func71, Tryz.ntmps71
    go_wp2_with fail
    refine (cV _).mono ?_
    rintro e w' ⟨rfl, rfl⟩
    go_wp2
    go_ret2
    exact ⟨rfl, rfl⟩
section
variable (d s b m n : Int) (x : Str) (r : LectD) (q : LectA) (R : Nat) (W : World)
  (hX : Box2 W R (.string (ba r.1)) (.slice q.1 r.2.length q.2)) (hR : LectIn W (fun k => R < k ∧ k < W.heap.size) r q)
include hX hR
set_option maxHeartbeats 8000000 in
set_option maxRecDepth 100000 in
theorem readField0 : Calls Tryz.prog 48 #[.pointer (some ⟨R, 0, none⟩), .int .i64 0, .string (ba x), .agg #[.int .i64 d, .int .i64 s, .int .i64 b, .int .i64 m], .int .i64 n] W (FieldOut d s b m n 0 x r R W) := by
  have hb0 : Below W.heap.size W (W.alloc (.cells #[.int .i64 d, .int .i64 s, .int .i64 b, .int .i64 m] 24)) := (Below.refl _ W).alloc (Nat.le_refl _) _
  have hs0 : (W.alloc (.cells #[.int .i64 d, .int .i64 s, .int .i64 b, .int .i64 m] 24)).heap.size = W.heap.size + 1 := by simp
  have hG := Box4.new W d s b m 24
  unfold FieldOut
  have cC := fun W => lcode_any (ba x) W
  rw [lst_ba] at cC
  obtain ⟨u, hu⟩ : ∃ u : Str, (if S3.validC x = true then x else []) = u := ⟨_, rfl⟩
  have hub : (if S3.validC x = true then ba x else ⟨#[]⟩) = ba u := by rw [← hu]; split <;> rfl
  obtain ⟨e0, he0⟩ : ∃ e0 : Int, (if S3.validC x = true then (0 : Int) else 10) = e0 := ⟨_, rfl⟩
  have hS : setF d s b m n 0 x r = ((u, r.2), e0) := by rw [← hu, ← he0]; simp only [setF]; split <;> rfl
  rw [hub, he0] at cC
  rw [hS]
  obtain ⟨z, hz⟩ : ∃ z, ba x = z := ⟨_, rfl⟩
  rw [hz] at cC ⊢
  clear hub hu he0 hS
  have CC := hid cC
  clear cC
  have HX := hid hX
  have HR := hid hR
  have HB := hid hb0
  have HS0 := hid hs0
  have hlt := hX.lt
  have HG := hid hG
  clear hX hR hG hb0 hs0
  go_enter Tryz.func48, Tryz.ntmps48
  go_wp2_with fail
  generalize W.alloc (.cells #[.int .i64 d, .int .i64 s, .int .i64 b, .int .i64 m] 24) = W1 at HB HG HS0 ⊢
  refine (CC.out W1).mono ?_
  rintro e w2 ⟨rfl, rfl⟩
  have hB2 := HB.out
  have HB2 := hid hB2
  have HX2 := hid (HX.out.below hB2 hlt)
  obtain ⟨y0, y1⟩ := HX2.out.cells
  have hf := HX2.out.free 0
  clear hB2
  go_wp2
  go_ret
  have k := LectIn.past (j := 0) (v := .string (ba u)) HR.out HB2.out
  exact ⟨rfl, ⟨q, (Box2.put0 HX2.out _), ⟨k.t, k.t1, k.t2⟩⟩, put_grown HB2.out R 0 _⟩
set_option maxHeartbeats 8000000 in
set_option maxRecDepth 100000 in
theorem readField1 (hE : Env7 W) (hx : x.length < 4294967281) : Calls Tryz.prog 48 #[.pointer (some ⟨R, 0, none⟩), .int .i64 1, .string (ba x), .agg #[.int .i64 d, .int .i64 s, .int .i64 b, .int .i64 m], .int .i64 n] W (FieldOut d s b m n 1 x r R W) := by
  have hb0 : Below W.heap.size W (W.alloc (.cells #[.int .i64 d, .int .i64 s, .int .i64 b, .int .i64 m] 24)) := (Below.refl _ W).alloc (Nat.le_refl _) _
  have hs0 : (W.alloc (.cells #[.int .i64 d, .int .i64 s, .int .i64 b, .int .i64 m] 24)).heap.size = W.heap.size + 1 := by simp
  have hG := Box4.new W d s b m 24
  unfold FieldOut
  have cC := fun W h => (lst_ba x) ▸ readTimes_any d s b m n (ba x) (by rw [Lib.size_eq]; exact hx) W h
  have hst := timesM_start d s b m n x
  obtain ⟨⟨u, e0⟩, hu⟩ : ∃ p, timesM d s b m n x = p := ⟨_, rfl⟩
  rw [hu] at hst
  have hS : setF d s b m n 1 x r = ((r.1, u), e0) := by simp only [setF, hu]
  rw [hu] at cC
  rw [hS]
  obtain ⟨z, hz⟩ : ∃ z, ba x = z := ⟨_, rfl⟩
  rw [hz] at cC ⊢
  have CC := hid cC
  clear cC hS
  have HX := hid hX
  have HR := hid hR
  have HB := hid hb0
  have HS0 := hid hs0
  have hlt := hX.lt
  have HG := hid hG
  clear hX hR hG hb0 hs0
  obtain ⟨g0, g1, g2, g3, g4⟩ := HG.out
  go_enter Tryz.func48, Tryz.ntmps48
  go_wp2_with fail
  generalize W.alloc (.cells #[.int .i64 d, .int .i64 s, .int .i64 b, .int .i64 m] 24) = W1 at HB HG HS0 ⊢
  refine (CC.out W1 (hE.below HB.out (Nat.le_refl _))).mono ?_
  rintro e w2 ⟨⟨v, rfl, hrow⟩, hb2⟩
  have hB2 := HB.out.trans (hb2.mono HB.out.size)
  have hrow' : TimeRow w2 W1.heap.size v u := hrow
  obtain ⟨A, c, rfl, hc1, hc2, hin⟩ := hrow'.timesIn hst
  have HIN := hid hin
  clear hb2 hrow hin hrow'
  have HB2 := hid hB2
  have HX2 := hid (HX.out.below hB2 hlt)
  obtain ⟨y0, y1⟩ := HX2.out.cells
  have hf := HX2.out.free 1
  clear hB2
  go_wp2
  go_ret
  have hg := put_grown HB2.out R 1 (.slice A u.length c)
  have k := LectIn.past (j := 1) (v := .slice A u.length c) HR.out HB2.out
  have hsz := HB.out.size
  refine ⟨rfl, ⟨(A, c), (Box2.put1 HX2.out _), ⟨?_, hc1, hc2⟩⟩, hg⟩
  refine (HIN.out.kept (w' := w2.setCell ⟨R, 1, none⟩ (.slice A u.length c)) (fun b hb => ?_)).mono (fun b hb => ⟨by omega, ?_⟩)
  · exact Below.heap_setCell w2 ⟨R, 1, none⟩ _ b (fun e => by have : b = R := e; omega)
  · simpa [World.setCell] using hb.2
theorem readField_any (hE : Env7 W) (hx : x.length < 4294967281) (i : Nat) (hi : i < 2) : Calls Tryz.prog 48 #[.pointer (some ⟨R, 0, none⟩), .int .i64 (i : Int), .string (ba x), .agg #[.int .i64 d, .int .i64 s, .int .i64 b, .int .i64 m], .int .i64 n] W (FieldOut d s b m n i x r R W) := by
  match i, hi with
  | 0, _ => exact readField0 d s b m n x r q R W hX hR
  | 1, _ => exact readField1 d s b m n x r q R W hX hR hE hx
set_option maxHeartbeats 8000000 in
set_option maxRecDepth 100000 in
theorem read1_any (hE : Env7 W) (hx : x.length < 4294967281) (i : Nat) (hi : i < 2) (G N : Nat) (hG : Box4 W G d s b m) (hN : W.cell? ⟨N, 0, none⟩ = some (.int .i64 n)) :
    Calls Tryz.prog 47 (#[.pointer (some ⟨R, 0, none⟩), .int .i64 (i : Int), .string (ba x)] ++ #[.pointer (some ⟨G, 0, none⟩), .pointer (some ⟨N, 0, none⟩)]) W (FieldOut d s b m n i x r R W) := by
  have cF := hid (readField_any d s b m n x r q R W hX hR hE hx i hi)
  obtain ⟨g0, g1, g2, g3, g4⟩ := hG
  clear hX hR hE hx
  simp only [List.append_toArray, List.cons_append, List.nil_append]
  obtain ⟨z, hz⟩ : ∃ z, ba x = z := ⟨_, rfl⟩
  rw [hz] at cF ⊢
  obtain ⟨iz, hiz⟩ : ∃ iz : Int, (i : Int) = iz := ⟨_, rfl⟩
  rw [hiz] at cF ⊢
  go_enter Tryz.func47, Tryz.ntmps47
  go_wp2_with fail
  refine cF.out.mono ?_
  rintro e w2 h
  unfold FieldOut at h ⊢
  obtain ⟨rfl, h⟩ := h
  have H := hid h
  clear h
  go_wp2
  go_ret
  exact ⟨rfl, H.out⟩
end
set_option maxHeartbeats 8000000 in
set_option maxRecDepth 100000 in
theorem readEntry_any (d s b m n : Int) (A : Option Addr) (fs : List FieldD) (c B : Nat) (G N : Nat) (w : World) (hB : B ≤ w.heap.size) (h : FieldsIn w (fun b => b < B) A fs) (hfc : fs.length ≤ c) (hc : c ≤ 9223372036854775807)
    (hF : ∀ (W : World) (R i : Nat) (x : Str) (r : LectD) (q : LectA), Below w.heap.size w W → w.heap.size ≤ R → i < 2 → (∃ f ∈ fs, f.1 = x) → Box2 W R (.string (ba r.1)) (.slice q.1 r.2.length q.2) → LectIn W (fun k => R < k ∧ k < W.heap.size) r q →
      Calls Tryz.prog 47 (#[.pointer (some ⟨R, 0, none⟩), .int .i64 (i : Int), .string (ba x)] ++ #[.pointer (some ⟨G, 0, none⟩), .pointer (some ⟨N, 0, none⟩)]) W (FieldOut d s b m n i x r R W)) :
    Calls Tryz.prog 73 #[.slice A fs.length c, .int .i64 2, .func (.func 47) #[] #[.pointer (some ⟨G, 0, none⟩), .pointer (some ⟨N, 0, none⟩)]] w (EntryOut (entryM d s b m n fs) w) := by
  have eg : ∀ args w, (callFunc 47 args).run Tryz.prog w = .ok (.enter 47 args) w := enters_of Tryz.func47 (by kernel_rfl) rfl
  obtain ⟨O, hO⟩ : ∃ O, entryM d s b m n fs = O := ⟨_, rfl⟩
  rw [hO]
  have hb0 := (Below.refl w.heap.size w).alloc (Nat.le_refl _) (.cells #[.string ⟨#[]⟩, .slice none 0 0] 34)
  have hx0 := Box2.new w (.string ⟨#[]⟩) (.slice none 0 0)
  have hr0 : ∀ W P, LectIn W P zeroR (none, 0) := fun W P => ⟨TimesIn.nil _ _ _, Nat.le_refl _, by decide⟩
  have HH := hid h
  have HF := hid hF
  have HR0 := hid hr0
  by_cases h5 : fs.length = 2
  · have hn5 : ((fs.length : Int) != 2) = false := by rw [h5]; rfl
    have hOe : Hid (efold d s b m n fs 0 zeroR = O) := hid (by rw [← hO]; unfold entryM; rw [if_neg (by simp [h5])])
    have HB0 := hid hb0
    have HX0 := hid hx0
    clear h hF hr0 hO hb0 hx0
    go_enter Tryz.func73, Tryz.ntmps73
    go_wp2
    generalize w.alloc (.cells #[.string ⟨#[]⟩, .slice none 0 0] 34) = wz at HB0 HX0 ⊢
    go_loopw [9, 10, 11, 19] (fun _ _ _ iv wr => ∃ (i : Nat) (r : LectD) (q : LectA), iv = .int .i64 (i : Int) ∧ i ≤ 2 ∧ Hid (efold d s b m n (fs.drop i) i r = O) ∧ Hid (Box2 wr w.heap.size (.string (ba r.1)) (.slice q.1 r.2.length q.2)) ∧ Hid (LectIn wr (fun k => w.heap.size < k ∧ k < wr.heap.size) r q) ∧ Hid (Below w.heap.size w wr)) (fun _ _ _ iv _ => 2 - (RowKit.intOf iv).toNat)
    case atStart => exact ⟨0, zeroR, (none, 0), rfl, by omega, hid hOe.out, hid HX0.out, hid (HR0.out _ _), hid HB0.out⟩
    case round =>
      obtain ⟨i, r, q, rfl, hi, hE, hX, hR, hBw⟩ := hrel
      by_cases hlt : i < 2
      · have hlt' : i < fs.length := by omega
        have hltz : (i : Int) < (fs.length : Int) := by omega
        have hst := efold_step d s b m n fs i hlt' r
        rw [hE.out] at hst
        obtain ⟨fb, fo, rfl, hfb, hc0⟩ := HH.out.at_ hlt'
        have hmem : ∃ f ∈ fs, f.1 = fs[i].1 := ⟨_, List.getElem_mem hlt', rfl⟩
        obtain ⟨⟨fx, fcol, fq⟩, hfi⟩ : ∃ f, fs[i] = f := ⟨_, rfl⟩
        rw [hfi] at hst hc0 hmem
        dsimp only at hst hc0 hmem
        obtain ⟨y0, y1, y2⟩ := hc0
        have kc : ∀ o : Nat, wr.cell? ⟨fb, o, none⟩ = w.cell? ⟨fb, o, none⟩ := fun o => hBw.out.cell (p := ⟨fb, o, none⟩) (by show fb < w.heap.size; omega)
        rw [← kc] at y0 y1 y2
        have hxl := hX.out.lt
        have hw1 := (Below.refl wr.heap.size wr).alloc (Nat.le_refl _) (.cells #[.string (ba fx), .int .i64 fcol, .bool fq] 94)
        have e1 := heap_alloc_new wr (.cells #[.string (ba fx), .int .i64 fcol, .bool fq] 94)
        have hs1 : (wr.alloc (.cells #[.string (ba fx), .int .i64 fcol, .bool fq] 94)).heap.size = wr.heap.size + 1 := by simp
        have HW1 := hid hw1
        have HE1 := hid e1
        have HS1 := hid hs1
        have HST := hid hst
        obtain ⟨z, hz⟩ : ∃ z, ba fx = z := ⟨_, rfl⟩
        have HZ := hid hz
        rw [hz] at y0 HW1 HE1 HS1
        clear hst kc hfi hw1 e1 hs1 hz hE
        go_wp2_with fail
        generalize wr.alloc (.cells #[.string z, .int .i64 fcol, .bool fq] 94) = w1 at HW1 HE1 HS1 ⊢
        have hX1 := hX.out.below HW1.out hxl
        have hR1 : LectIn w1 (fun k => w.heap.size < k ∧ k < w1.heap.size) r q := (hR.out.kept (fun k hk => HW1.out.block k hk.2)).mono (fun k hk => ⟨hk.1, by rw [HS1.out]; omega⟩)
        have hB1 := hBw.out.trans (HW1.out.mono hBw.out.size)
        have cF := HF.out w1 w.heap.size i fx r q hB1 (Nat.le_refl _) hlt hmem hX1 hR1
        rw [HZ.out] at cF
        have CF := hid cF
        clear cF hX1 hR1 hX hR hmem
        refine CF.out.mono ?_
        rintro e w2 ⟨rfl, ⟨q', hX2, hR2⟩, hg2⟩
        obtain ⟨⟨r', e2⟩, hse⟩ : ∃ S, setF d s b m n i fx r = S := ⟨_, rfl⟩
        rw [hse] at hX2 hR2 HST ⊢
        dsimp only at hX2 hR2 HST ⊢
        have HX2 := hid hX2
        have HR2 := hid hR2
        have HG2 := hid hg2
        clear hX2 hR2 hg2
        have hlt1 : w.heap.size < w1.heap.size := by rw [HS1.out]; omega
        have hBend : Below w.heap.size w w2 := (hBw.out.trans (HW1.out.mono hBw.out.size)).grown HG2.out (by omega) (fun k e => by injection e; omega)
        have HBE := hid hBend
        clear hBend
        by_cases h2 : e2 = 0
        · subst h2
          have hst := HST.out
          simp only [ne_eq, not_true, if_false] at hst
          have HN := hid hst.symm
          clear hst
          go_wp2
          exact ⟨⟨i + 1, r', q', rfl, by omega, HN, HX2, HR2, HBE⟩, by simp [RowKit.intOf]; omega⟩
        · have hst := HST.out
          rw [if_pos h2] at hst
          have hfr : w2.heap[wr.heap.size]? = some (.cells #[.string z, .int .i64 fcol, .bool fq] 94 (0, 0)) := (HG2.out.block wr.heap.size (by rw [HS1.out]; omega) (fun e => by injection e; omega)).trans HE1.out
          have c1 : w2.cell? ⟨wr.heap.size, 1, none⟩ = some (.int .i64 fcol) := by rw [Lib.cell_of_heap hfr]; rfl
          obtain ⟨y0', y1'⟩ := HX2.out.cells
          have f0 := HX2.out.free 0
          have f1 := HX2.out.free 1
          have HST2 := hid hst
          clear hst hfr
          go_wp2
          go_region
          go_wp2
          obtain ⟨W5, h5⟩ : ∃ W5, W5 = (w2.setCell ⟨w.heap.size, 0, none⟩ (.string (ba r'.1))).setCell ⟨w.heap.size, 1, none⟩ (.slice q'.1 r'.2.length q'.2) := ⟨_, rfl⟩
          rw [← h5]
          obtain ⟨k1, k2, k3⟩ := two_put HX2.out HR2.out HBE.out h5
          clear h5
          have k1' : Box2 W5.drew w.heap.size _ _ := k1.kept rfl
          have k2' : LectIn W5.drew (fun k => w.heap.size < k ∧ k < W5.drew.heap.size) r' q' := k2.kept (fun _ _ => rfl)
          refine entry_end (r := r') (q := q') ?_ ?_ ?_ ?_ k1' k2' k3.drew HST2.out
          all_goals rfl
      · have : i = 2 := by omega
        subst this
        have hdrop : fs.drop 2 = [] := List.drop_eq_nil_of_le (by omega)
        have hOf := hE.out
        rw [hdrop] at hOf
        obtain ⟨y0', y1'⟩ := hX.out.cells
        have f0 := hX.out.free 0
        have f1 := hX.out.free 1
        go_wp2
        obtain ⟨W5, h5⟩ : ∃ W5, W5 = (wr.setCell ⟨w.heap.size, 0, none⟩ (.string (ba r.1))).setCell ⟨w.heap.size, 1, none⟩ (.slice q.1 r.2.length q.2) := ⟨_, rfl⟩
        rw [← h5]
        obtain ⟨k1, k2, k3⟩ := two_put hX.out hR.out hBw.out h5
        clear h5
        refine entry_end (r := r) (q := q) ?_ ?_ ?_ ?_ k1 k2 k3 (by rw [← hOf]; rfl)
        all_goals rfl
  · have hn5 : ((fs.length : Int) != 2) = true := by simp; omega
    have hOf : O = (zeroR, 0, 9) := by rw [← hO]; unfold entryM; rw [if_pos h5]
    have hR0 : LectIn (w.alloc (.cells #[.string ⟨#[]⟩, .slice none 0 0] 34)) (fun k => w.heap.size < k ∧ k < (w.alloc (.cells #[.string ⟨#[]⟩, .slice none 0 0] 34)).heap.size) zeroR (none, 0) := hr0 _ _
    have HB0 := hid hb0
    have HX0 := hid hx0
    have HR1 := hid hR0
    clear h hF hr0 hO hb0 hx0 hR0
    go_enter Tryz.func73, Tryz.ntmps73
    go_wp2
    refine entry_end (r := zeroR) (q := (none, 0)) ?_ ?_ ?_ ?_ HX0.out HR1.out HB0.out hOf
    all_goals rfl
end Go.Proofs.YtnpfmoalgphkcaaGreatDoor.S9
namespace Go.Proofs.YtnpfmoalgphkcaaGreatDoor
open Go Go.Proofs Go.RowKit Go.Lib
theorem meet_no {k y t l k' y' t' l' : Int} (h : ¬ (soundB k y t l = true ∧ soundB k' y' t' l' = true ∧ bits .and .i64 k k' ≠ 0 ∧ y = y')) : betM k y t l k' y' t' l' = (0, false) := by
  unfold betM
  rw [show meetB k y t l k' y' t' l' = false from decide_eq_false h, if_neg (by simp)]
theorem meet_yes {k y t l k' y' t' l' : Int} (h : soundB k y t l = true ∧ soundB k' y' t' l' = true ∧ bits .and .i64 k k' ≠ 0 ∧ y = y') : betM k y t l k' y' t' l' = (gapI t l t' l', true) := by
  unfold betM
  rw [show meetB k y t l k' y' t' l' = true from decide_eq_true h, if_pos rfl]
set_option maxHeartbeats 8000000 in
set_option maxRecDepth 100000 in
theorem between_any (k y t l k' y' t' l' : Int) (ht : t ≤ 9223372036854775807) (ht' : t' ≤ 9223372036854775807) (w : World) :
    Calls Tryz.prog 81 #[.agg #[.int .i64 k, .int .i64 y, .int .i64 t, .int .i64 l], .agg #[.int .i64 k', .int .i64 y', .int .i64 t', .int .i64 l']] w (Says (.tuple #[.int .i64 (betM k y t l k' y' t' l').1, .bool (betM k y t l k' y' t' l').2]) w) := by
  have cS := fun w => sound_any k y t l ht w
  have cS2 := fun w => sound_any k' y' t' l' ht' w
  unfold Says at cS cS2 ⊢
  cases hs : soundB k y t l with
  | false =>
    rw [meet_no (fun h => by rw [hs] at h; exact absurd h.1 (by simp))]
    rw [hs] at cS
    clear hs cS2
    have hk := K2.first w k y t l k' y' t' l' 26 26
    have HK := hid hk
    clear hk
    go_enter Tryz.func81, Tryz.ntmps81
    go_wp2_with fail
    refine (cS _).mono ?_
    rintro e w1 ⟨rfl, hb⟩
    have hk := HK.out.next hb
    clear hb HK
    obtain ⟨⟨x0, x1, x2, x3, _⟩, ⟨y0, y1, y2, y3, _⟩, _⟩ := id hk
    go_wp2
    go_ret2
    exact ⟨rfl, hk.b⟩
  | true =>
    rw [hs] at cS
    cases hs2 : soundB k' y' t' l' with
    | false =>
      rw [meet_no (fun h => by rw [hs2] at h; exact absurd h.2.1 (by simp))]
      rw [hs2] at cS2
      clear hs hs2
      have hk := K2.first w k y t l k' y' t' l' 26 26
      have HK := hid hk
      clear hk
      go_enter Tryz.func81, Tryz.ntmps81
      go_wp2_with fail
      refine (cS _).mono ?_
      rintro e w1 ⟨rfl, hb⟩
      have hk := HK.out.next hb
      clear hb HK
      obtain ⟨⟨x0, x1, x2, x3, _⟩, ⟨y0, y1, y2, y3, _⟩, _⟩ := id hk
      go_wp2_with fail
      refine (cS2 _).mono ?_
      rintro e w1 ⟨rfl, hb⟩
      have hk := hk.next hb
      clear hb
      obtain ⟨⟨x0, x1, x2, x3, _⟩, ⟨y0, y1, y2, y3, _⟩, _⟩ := id hk
      go_wp2
      go_ret2
      exact ⟨rfl, hk.b⟩
    | true =>
      rw [hs2] at cS2
      by_cases hw : bits .and .i64 k k' = 0
      · rw [meet_no (fun h => h.2.2.1 hw)]
        clear hs hs2
        have hk := K2.first w k y t l k' y' t' l' 26 26
        have HK := hid hk
        clear hk
        go_enter Tryz.func81, Tryz.ntmps81
        go_wp2_with fail
        refine (cS _).mono ?_
        rintro e w1 ⟨rfl, hb⟩
        have hk := HK.out.next hb
        clear hb HK
        obtain ⟨⟨x0, x1, x2, x3, _⟩, ⟨y0, y1, y2, y3, _⟩, _⟩ := id hk
        go_wp2_with fail
        refine (cS2 _).mono ?_
        rintro e w1 ⟨rfl, hb⟩
        have hk := hk.next hb
        clear hb
        obtain ⟨⟨x0, x1, x2, x3, _⟩, ⟨y0, y1, y2, y3, _⟩, _⟩ := id hk
        go_wp2
        go_ret2
        exact ⟨rfl, hk.b⟩
      · have hw' : (bits .and .i64 k k' == 0) = false := by simpa using hw
        by_cases hy : y = y'
        · rw [meet_yes ⟨hs, hs2, hw, hy⟩]
          have hyd : (y != y') = false := by simpa using hy
          clear hy
          obtain ⟨s1, s2, s3, s4, s5⟩ := sound_of hs
          obtain ⟨r1, r2, r3, r4, r5⟩ := sound_of hs2
          have cE := fun w => endOf_any k y t l s3 (by omega) (by omega) (by omega) w
          have cE2 := fun w => endOf_any k' y' t' l' r3 (by omega) (by omega) (by omega) w
          unfold Says at cE cE2
          clear hs hs2 hw
          have four : ∃ D, max t t' - min (t + l) (t' + l') = D ∧ gapI t l t' l' = max D (-1) ∧ IntKind.i64.wrap D = D := by
            refine ⟨_, rfl, rfl, IntWalk.i64_in _ ?_⟩
            omega
          obtain ⟨D, hD, hG, hWD⟩ := four
          rw [hG]
          have hk := K2.first w k y t l k' y' t' l' 26 26
          have HK := hid hk
          clear hk
          go_enter Tryz.func81, Tryz.ntmps81
          go_wp2_with fail
          refine (cS _).mono ?_
          rintro e w1 ⟨rfl, hb⟩
          have hk := HK.out.next hb
          clear hb HK
          obtain ⟨⟨x0, x1, x2, x3, _⟩, ⟨y0, y1, y2, y3, _⟩, _⟩ := id hk
          go_wp2_with fail
          refine (cS2 _).mono ?_
          rintro e w1 ⟨rfl, hb⟩
          have hk := hk.next hb
          clear hb
          obtain ⟨⟨x0, x1, x2, x3, _⟩, ⟨y0, y1, y2, y3, _⟩, _⟩ := id hk
          go_wp2_with fail
          clear x0 x1 x2 x3 y0 y1 y2 y3
          refine wp_region_held_drew (S := K2 w k y t l k' y' t' l') (by kernel_rfl) hk.drew (fun hHeld => ?_)
          first
            | (refine wpAnyH_take (i := 0) (oi := _) (v := undef) rfl (by kernel_rfl) (by kernel_rfl) (by kernel_rfl) (fun _ _ _ h => h) (Or.inr ⟨by rfl, rfl⟩) (by assumption) ?_)
            | (refine wpAnyH_take (i := 0) (oi := _) (v := ?_) rfl (by kernel_rfl) (by kernel_rfl) (by kernel_rfl) (fun _ _ _ h => h) (Or.inl ⟨by rfl, ?_⟩) (by assumption) ?_; rotate_left; (intro wS hSw; obtain ⟨⟨x0, x1, x2, x3, _⟩, ⟨y0, y1, y2, y3, _⟩, _⟩ := hSw; (try simp only [List.getElem_toArray, List.getElem_cons_zero]); go_simp; (try with_reducible rfl)))
          try simp only [List.getElem_toArray, List.getElem_cons_zero, Act.put, List.setIfInBounds_toArray, List.set_cons_zero, List.set_cons_succ]
          first
            | (refine wpAnyH_take (i := 1) (oi := _) (v := undef) rfl (by kernel_rfl) (by kernel_rfl) (by kernel_rfl) (fun _ _ _ h => h) (Or.inr ⟨by rfl, rfl⟩) (by assumption) ?_)
            | (refine wpAnyH_take (i := 1) (oi := _) (v := ?_) rfl (by kernel_rfl) (by kernel_rfl) (by kernel_rfl) (fun _ _ _ h => h) (Or.inl ⟨by rfl, ?_⟩) (by assumption) ?_; rotate_left; (intro wS hSw; obtain ⟨⟨x0, x1, x2, x3, _⟩, ⟨y0, y1, y2, y3, _⟩, _⟩ := hSw; (try simp only [List.getElem_toArray, List.getElem_cons_succ, List.getElem_cons_zero]); go_simp; (try with_reducible rfl)))
          try simp only [List.getElem_toArray, List.getElem_cons_succ, List.getElem_cons_zero, Act.put, List.setIfInBounds_toArray, List.set_cons_zero, List.set_cons_succ]
          first
            | (refine wpAnyH_take (i := 2) (oi := _) (v := undef) rfl (by kernel_rfl) (by kernel_rfl) (by kernel_rfl) (fun _ _ _ h => h) (Or.inr ⟨by rfl, rfl⟩) (by assumption) ?_)
            | (refine wpAnyH_take (i := 2) (oi := _) (v := ?_) rfl (by kernel_rfl) (by kernel_rfl) (by kernel_rfl) (fun _ _ _ h => h) (Or.inl ⟨by rfl, ?_⟩) (by assumption) ?_; rotate_left; (intro wS hSw; obtain ⟨⟨x0, x1, x2, x3, _⟩, ⟨y0, y1, y2, y3, _⟩, _⟩ := hSw; (try simp only [List.getElem_toArray, List.getElem_cons_succ, List.getElem_cons_zero]); go_simp; (try with_reducible rfl)))
          try simp only [List.getElem_toArray, List.getElem_cons_succ, List.getElem_cons_zero, Act.put, List.setIfInBounds_toArray, List.set_cons_zero, List.set_cons_succ]
          first
            | (refine wpAnyH_take (i := 3) (oi := _) (v := undef) rfl (by kernel_rfl) (by kernel_rfl) (by kernel_rfl) (fun _ _ _ h => h) (Or.inr ⟨by rfl, rfl⟩) (by assumption) ?_)
            | (refine wpAnyH_take (i := 3) (oi := _) (v := ?_) rfl (by kernel_rfl) (by kernel_rfl) (by kernel_rfl) (fun _ _ _ h => h) (Or.inl ⟨by rfl, ?_⟩) (by assumption) ?_; rotate_left; (intro wS hSw; obtain ⟨⟨x0, x1, x2, x3, _⟩, ⟨y0, y1, y2, y3, _⟩, _⟩ := hSw; (try simp only [List.getElem_toArray, List.getElem_cons_succ, List.getElem_cons_zero]); go_simp; (try with_reducible rfl)))
          try simp only [List.getElem_toArray, List.getElem_cons_succ, List.getElem_cons_zero, Act.put, List.setIfInBounds_toArray, List.set_cons_zero, List.set_cons_succ]
          first
            | (refine wpAnyH_take (i := 4) (oi := _) (v := undef) rfl (by kernel_rfl) (by kernel_rfl) (by kernel_rfl) (fun _ _ _ h => h) (Or.inr ⟨by rfl, rfl⟩) (by assumption) ?_)
            | (refine wpAnyH_take (i := 4) (oi := _) (v := ?_) rfl (by kernel_rfl) (by kernel_rfl) (by kernel_rfl) (fun _ _ _ h => h) (Or.inl ⟨by rfl, ?_⟩) (by assumption) ?_; rotate_left; (intro wS hSw; obtain ⟨⟨x0, x1, x2, x3, _⟩, ⟨y0, y1, y2, y3, _⟩, _⟩ := hSw; (try simp only [List.getElem_toArray, List.getElem_cons_succ, List.getElem_cons_zero]); go_simp; (try with_reducible rfl)))
          try simp only [List.getElem_toArray, List.getElem_cons_succ, List.getElem_cons_zero, Act.put, List.setIfInBounds_toArray, List.set_cons_zero, List.set_cons_succ]
          first
            | (refine wpAnyH_take (i := 5) (oi := _) (v := undef) rfl (by kernel_rfl) (by kernel_rfl) (by kernel_rfl) (fun _ _ _ h => h) (Or.inr ⟨by rfl, rfl⟩) (by assumption) ?_)
            | (refine wpAnyH_take (i := 5) (oi := _) (v := ?_) rfl (by kernel_rfl) (by kernel_rfl) (by kernel_rfl) (fun _ _ _ h => h) (Or.inl ⟨by rfl, ?_⟩) (by assumption) ?_; rotate_left; (intro wS hSw; obtain ⟨⟨x0, x1, x2, x3, _⟩, ⟨y0, y1, y2, y3, _⟩, _⟩ := hSw; (try simp only [List.getElem_toArray, List.getElem_cons_succ, List.getElem_cons_zero]); go_simp; (try with_reducible rfl)))
          try simp only [List.getElem_toArray, List.getElem_cons_succ, List.getElem_cons_zero, Act.put, List.setIfInBounds_toArray, List.set_cons_zero, List.set_cons_succ]
          first
            | (refine wpAnyH_take (i := 7) (oi := _) (v := undef) rfl (by kernel_rfl) (by kernel_rfl) (by kernel_rfl) (fun _ _ _ h => h) (Or.inr ⟨by rfl, rfl⟩) (by assumption) ?_)
            | (refine wpAnyH_take (i := 7) (oi := _) (v := ?_) rfl (by kernel_rfl) (by kernel_rfl) (by kernel_rfl) (fun _ _ _ h => h) (Or.inl ⟨by rfl, ?_⟩) (by assumption) ?_; rotate_left; (intro wS hSw; obtain ⟨⟨x0, x1, x2, x3, _⟩, ⟨y0, y1, y2, y3, _⟩, _⟩ := hSw; (try simp only [List.getElem_toArray, List.getElem_cons_succ, List.getElem_cons_zero]); go_simp; (try with_reducible rfl)))
          try simp only [List.getElem_toArray, List.getElem_cons_succ, List.getElem_cons_zero, Act.put, List.setIfInBounds_toArray, List.set_cons_zero, List.set_cons_succ]
          first
            | (refine wpAnyH_take (i := 6) (oi := _) (v := undef) rfl (by kernel_rfl) (by kernel_rfl) (by kernel_rfl) (fun _ _ _ h => h) (Or.inr ⟨by rfl, rfl⟩) (by assumption) ?_)
            | (refine wpAnyH_ready (rs := [6]) (by kernel_rfl) (by simp) ?_; refine AllReadyH.cons (o := _) rfl (fun K hK => ?_) AllReadyH.nil; (try simp only [List.getElem_toArray, List.getElem_cons_succ, List.getElem_cons_zero]); go_simp; go_at_call 95; refine (cE _).mono ?_; rintro e w1 ⟨rfl, hb⟩; have hk2 := hHeld.next hb; clear hb hHeld; have hHeld := hk2; clear hk2; skip; go_wp2_with fail; refine hK.out _ _ hHeld (fun hHeld => ?_); clear hK K)
          try simp only [List.getElem_toArray, List.getElem_cons_succ, List.getElem_cons_zero, Act.put, List.setIfInBounds_toArray, List.set_cons_zero, List.set_cons_succ]
          first
            | (refine wpAnyH_take (i := 8) (oi := _) (v := undef) rfl (by kernel_rfl) (by kernel_rfl) (by kernel_rfl) (fun _ _ _ h => h) (Or.inr ⟨by rfl, rfl⟩) (by assumption) ?_)
            | (refine wpAnyH_ready (rs := [8]) (by kernel_rfl) (by simp) ?_; refine AllReadyH.cons (o := _) rfl (fun K hK => ?_) AllReadyH.nil; (try simp only [List.getElem_toArray, List.getElem_cons_succ, List.getElem_cons_zero]); go_simp; go_at_call 95; refine (cE2 _).mono ?_; rintro e w1 ⟨rfl, hb⟩; have hk2 := hHeld.next hb; clear hb hHeld; have hHeld := hk2; clear hk2; skip; go_wp2_with fail; refine hK.out _ _ hHeld (fun hHeld => ?_); clear hK K)
          try simp only [List.getElem_toArray, List.getElem_cons_succ, List.getElem_cons_zero, Act.put, List.setIfInBounds_toArray, List.set_cons_zero, List.set_cons_succ]
          first
            | (refine wpAnyH_take (i := 9) (oi := _) (v := undef) rfl (by kernel_rfl) (by kernel_rfl) (by kernel_rfl) (fun _ _ _ h => h) (Or.inr ⟨by rfl, rfl⟩) (by assumption) ?_)
            | (refine wpAnyH_take (i := 9) (oi := _) (v := ?_) rfl (by kernel_rfl) (by kernel_rfl) (by kernel_rfl) (fun _ _ _ h => h) (Or.inl ⟨by rfl, ?_⟩) (by assumption) ?_; rotate_left; (intro wS hSw; obtain ⟨⟨x0, x1, x2, x3, _⟩, ⟨y0, y1, y2, y3, _⟩, _⟩ := hSw; (try simp only [List.getElem_toArray, List.getElem_cons_succ, List.getElem_cons_zero]); go_simp; (try with_reducible rfl)))
          try simp only [List.getElem_toArray, List.getElem_cons_succ, List.getElem_cons_zero, Act.put, List.setIfInBounds_toArray, List.set_cons_zero, List.set_cons_succ]
          first
            | (refine wpAnyH_take (i := 10) (oi := _) (v := undef) rfl (by kernel_rfl) (by kernel_rfl) (by kernel_rfl) (fun _ _ _ h => h) (Or.inr ⟨by rfl, rfl⟩) (by assumption) ?_)
            | (refine wpAnyH_take (i := 10) (oi := _) (v := ?_) rfl (by kernel_rfl) (by kernel_rfl) (by kernel_rfl) (fun _ _ _ h => h) (Or.inl ⟨by rfl, ?_⟩) (by assumption) ?_; rotate_left; (intro wS hSw; obtain ⟨⟨x0, x1, x2, x3, _⟩, ⟨y0, y1, y2, y3, _⟩, _⟩ := hSw; (try simp only [List.getElem_toArray, List.getElem_cons_succ, List.getElem_cons_zero]); go_simp; (try with_reducible rfl)))
          try simp only [List.getElem_toArray, List.getElem_cons_succ, List.getElem_cons_zero, Act.put, List.setIfInBounds_toArray, List.set_cons_zero, List.set_cons_succ]
          first
            | (refine wpAnyH_take (i := 11) (oi := _) (v := undef) rfl (by kernel_rfl) (by kernel_rfl) (by kernel_rfl) (fun _ _ _ h => h) (Or.inr ⟨by rfl, rfl⟩) (by assumption) ?_)
            | (refine wpAnyH_take (i := 11) (oi := _) (v := ?_) rfl (by kernel_rfl) (by kernel_rfl) (by kernel_rfl) (fun _ _ _ h => h) (Or.inl ⟨by rfl, ?_⟩) (by assumption) ?_; rotate_left; (intro wS hSw; obtain ⟨⟨x0, x1, x2, x3, _⟩, ⟨y0, y1, y2, y3, _⟩, _⟩ := hSw; (try simp only [List.getElem_toArray, List.getElem_cons_succ, List.getElem_cons_zero]); go_simp; (try with_reducible rfl)))
          try simp only [List.getElem_toArray, List.getElem_cons_succ, List.getElem_cons_zero, Act.put, List.setIfInBounds_toArray, List.set_cons_zero, List.set_cons_succ]
          first
            | (refine wpAnyH_take (i := 12) (oi := _) (v := undef) rfl (by kernel_rfl) (by kernel_rfl) (by kernel_rfl) (fun _ _ _ h => h) (Or.inr ⟨by rfl, rfl⟩) (by assumption) ?_)
            | (refine wpAnyH_take (i := 12) (oi := _) (v := ?_) rfl (by kernel_rfl) (by kernel_rfl) (by kernel_rfl) (fun _ _ _ h => h) (Or.inl ⟨by rfl, ?_⟩) (by assumption) ?_; rotate_left; (intro wS hSw; obtain ⟨⟨x0, x1, x2, x3, _⟩, ⟨y0, y1, y2, y3, _⟩, _⟩ := hSw; (try simp only [List.getElem_toArray, List.getElem_cons_succ, List.getElem_cons_zero]); go_simp; (try with_reducible rfl)))
          try simp only [List.getElem_toArray, List.getElem_cons_succ, List.getElem_cons_zero, Act.put, List.setIfInBounds_toArray, List.set_cons_zero, List.set_cons_succ]
          first
            | (refine wpAnyH_take (i := 13) (oi := _) (v := undef) rfl (by kernel_rfl) (by kernel_rfl) (by kernel_rfl) (fun _ _ _ h => h) (Or.inr ⟨by rfl, rfl⟩) (by assumption) ?_)
            | (refine wpAnyH_take (i := 13) (oi := _) (v := ?_) rfl (by kernel_rfl) (by kernel_rfl) (by kernel_rfl) (fun _ _ _ h => h) (Or.inl ⟨by rfl, ?_⟩) (by assumption) ?_; rotate_left; (intro wS hSw; obtain ⟨⟨x0, x1, x2, x3, _⟩, ⟨y0, y1, y2, y3, _⟩, _⟩ := hSw; (try simp only [List.getElem_toArray, List.getElem_cons_succ, List.getElem_cons_zero]); go_simp; (try with_reducible rfl)))
          try simp only [List.getElem_toArray, List.getElem_cons_succ, List.getElem_cons_zero, Act.put, List.setIfInBounds_toArray, List.set_cons_zero, List.set_cons_succ]
          refine wpAnyH_done (by kernel_rfl) ?_ _
          go_wp2
          go_ret2
          exact ⟨rfl, hHeld.b⟩
        · rw [meet_no (fun h => hy h.2.2.2)]
          have hy' : (y != y') = true := by simpa using hy
          clear hs hs2 hw
          have hk := K2.first w k y t l k' y' t' l' 26 26
          have HK := hid hk
          clear hk
          go_enter Tryz.func81, Tryz.ntmps81
          go_wp2_with fail
          refine (cS _).mono ?_
          rintro e w1 ⟨rfl, hb⟩
          have hk := HK.out.next hb
          clear hb HK
          obtain ⟨⟨x0, x1, x2, x3, _⟩, ⟨y0, y1, y2, y3, _⟩, _⟩ := id hk
          go_wp2_with fail
          refine (cS2 _).mono ?_
          rintro e w1 ⟨rfl, hb⟩
          have hk := hk.next hb
          clear hb
          obtain ⟨⟨x0, x1, x2, x3, _⟩, ⟨y0, y1, y2, y3, _⟩, _⟩ := id hk
          go_wp2
          go_ret2
          exact ⟨rfl, hk.b⟩
set_option maxHeartbeats 2000000 in
theorem overlap_any (k y t l k' y' t' l' : Int) (ht : t ≤ 9223372036854775807) (ht' : t' ≤ 9223372036854775807) (w : World) :
    Calls Tryz.prog 59 #[.agg #[.int .i64 k, .int .i64 y, .int .i64 t, .int .i64 l], .agg #[.int .i64 k', .int .i64 y', .int .i64 t', .int .i64 l']] w (Says (.bool (overB k y t l k' y' t' l')) w) := by
  have cB := fun w => between_any k y t l k' y' t' l' ht ht' w
  unfold Says overB at *
  generalize betM k y t l k' y' t' l' = R at cB ⊢
  obtain ⟨N, O⟩ := R
  dsimp only at cB ⊢
  cases O with
  | false =>
    have hk := K2.first w k y t l k' y' t' l' 26 26
    have HK := hid hk
    clear hk
    go_enter Tryz.func59, Tryz.ntmps59
    go_wp2_with fail
    refine (cB _).mono ?_
    rintro e w1 ⟨rfl, hb⟩
    have hk := HK.out.next hb
    clear hb HK
    go_wp2
    go_ret
    exact ⟨rfl, hk.b⟩
  | true =>
    rw [Bool.true_and]
    by_cases hn : N < 0
    · have hnd : decide (N < 0) = true := decide_eq_true hn
      rw [hnd]
      have hk := K2.first w k y t l k' y' t' l' 26 26
      have HK := hid hk
      clear hk
      go_enter Tryz.func59, Tryz.ntmps59
      go_wp2_with fail
      refine (cB _).mono ?_
      rintro e w1 ⟨rfl, hb⟩
      have hk := HK.out.next hb
      clear hb HK
      go_wp2
      go_ret
      exact ⟨rfl, hk.b⟩
    · have hnd : decide (N < 0) = false := decide_eq_false hn
      rw [hnd]
      have hk := K2.first w k y t l k' y' t' l' 26 26
      have HK := hid hk
      clear hk
      go_enter Tryz.func59, Tryz.ntmps59
      go_wp2_with fail
      refine (cB _).mono ?_
      rintro e w1 ⟨rfl, hb⟩
      have hk := HK.out.next hb
      clear hb HK
      go_wp2
      go_ret
      exact ⟨rfl, hk.b⟩
end Go.Proofs.YtnpfmoalgphkcaaGreatDoor
