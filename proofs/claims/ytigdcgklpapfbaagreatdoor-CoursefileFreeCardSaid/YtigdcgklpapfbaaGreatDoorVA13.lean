/-
  The program's List: its walk. Conditions: the library's variables hold what its text lays; the string has fewer than 2^32 - 15 bytes.
  The program's Join: its contract (joinM). Conditions: the library's variables hold what its text lays; the list of strings lies in memory.
  Rooms as data: what is asked of one and of a list; the text of their times and their records; numbers of seats. No program.
  The text of a list of times: writeTimes of the program. Conditions: the times lie in memory, at most 24; the variables hold what their text lays.
  From a walk to a row, for every statement of this seat: a call that returns true and turns nothing that was there meets what a row asks. Condition: as the lemmas state.
  The rooms that are known, by their codes: add of rooms. Conditions: the map is one of the call's own, with the codes l; the room's code fits into memory.
  Records, problems in memory. No program beyond the types' facts.
-/
import Derived.Test.YtigdcgklpapfbaaGreatDoorVA01
import Derived.Test.YtigdcgklpapfbaaGreatDoorVA02
import Derived.Test.YtigdcgklpapfbaaGreatDoorVA03
import Derived.Test.YtigdcgklpapfbaaGreatDoorVA04
import Derived.Test.YtigdcgklpapfbaaGreatDoorVA05
import Derived.Test.YtigdcgklpapfbaaGreatDoorVA06
import Derived.Test.YtigdcgklpapfbaaGreatDoorVA07
import Derived.Test.YtigdcgklpapfbaaGreatDoorVA08
import Derived.Test.YtigdcgklpapfbaaGreatDoorVA09
import Derived.Test.YtigdcgklpapfbaaGreatDoorVA10
import Derived.Test.YtigdcgklpapfbaaGreatDoorVA11
import Derived.Test.YtigdcgklpapfbaaGreatDoorVA12
import Derived.RangeFuncNested
import Derived.RangeFuncBound
import Derived.RangeFuncCalls
import Derived.RangeFuncLeaves
import Derived.Shelf.Abstract
import Derived.Shelf.RegionOpen
import Derived.OwnWalkIn
import Derived.Lib.Bytealg
import Derived.Lib.ItoaNum
import Derived.Lib.Atoi
import Derived.Lib.SlTrimSet
import Derived.Test.YtigdcgklpapfbaaGreatDoorProg
import Derived.WalkKit
import Derived.WalkSpells
import Derived.WalkLawsBesides
import Derived.Lib.Hide
import Derived.Deep.QuietTactic
import Derived.BigQuiet
import Derived.Laws.Rows
import Derived.OwnWalk
import Derived.Lib.BufferWrite
import Derived.Lib.UnsafeStr
import Derived.Laws.IdiomStrings
import Derived.Laws.BytesArg
import Derived.Laws.BytesString
import Derived.Shelf.Strings.Builder1
import Derived.Shelf.Strings.Builder2
import Derived.Shelf.Strings.OnBuilder
import Derived.Shelf.Strings.Trim
import Derived.Shelf.Small.Bits
import Derived.Shelf.Small.Strs
import Derived.Shelf.Small.Wraps
import Derived.Shelf.Strings.BuilderF
import Derived.Shelf.Strings.BuilderK
import Derived.Shelf.Strings.Builder2Cap
import Derived.Shelf.Strconv.Atoi
import Derived.Shelf.Strconv.Itoa0
import Derived.Shelf.Strconv.Itoa1
import Derived.Shelf.LaysM
import Derived.Shelf.Strconv.Itoa2
import Derived.Shelf.Strconv.Itoa3
import Derived.Shelf.Strconv.AtoiErrFast
import Derived.Shelf.Strconv.ParseIntEmpty
import Derived.Shelf.Strconv.AtoiFail
import Derived.Shelf.Strconv.Clone
import Derived.Shelf.Strconv.SyntaxError
import Derived.Shelf.LaysC
import Derived.Shelf.Strconv.ToError
import Derived.Shelf.Strconv.AtoiErr
import Derived.Shelf.Strings.Search1
import Derived.Shelf.Strings.Search2
import Derived.Shelf.Strings.Search3
import Derived.Shelf.Strings.Cut
import Derived.Shelf.Strings.Shaped
import Derived.Shelf.Strings.Prefix
import Derived.Shelf.Strings.Runes
import Derived.Shelf.Strings.AsciiSet
import Derived.Shelf.Bits.Mul64
import Derived.Shelf.Strings.Repeat
import Derived.Shelf.Unicode.DecodeSlow
import Derived.Shelf.Strings.BuilderCap
import Derived.Shelf.Slices.Turned
import Derived.Ground.SlgfProg
import Derived.Shelf.SlicesE.IndexFunc
import Derived.Shelf.Strings.SlTrimAscii
import Derived.Lib.AtoiErrMem
import Derived.Handy
import Derived.Laws.ResultCell
import Derived.RegionTactic
import Derived.Lib.Repeat
import Derived.Deep.RegionHeld3
import Derived.Laws.OwnMore
import Derived.Lib.SlicesS
import Derived.Lib.IndexLaws
import Derived.TacticsInMore
import Derived.LoopNIn
import Derived.LoopIn
import Derived.Deep.DeepCutAuto
import Derived.Lib.Join
import Derived.Laws.Concat
import Derived.Laws.BitsAllLaws
import Derived.Laws.BitsLemmas
import Derived.Deep.MidRow
import Derived.Deep.RegionLaw
import Derived.Test.YtigdcgklpapfbaaGreatDoorCards
import Derived.Test.YtigdcgklpapfbaaGreatDoorTie
import Derived.Lib.SmallJoins
import Derived.SizedLaws
import Derived.Stop.LaidErr
import Derived.Deep.DeepWitnessRowRef
import Derived.ProofKit
import Derived.OpenShut
import Derived.Deep.DeepHandedRow
import Derived.Deep.DeepLaidRun
import Derived.Lib.LaidU8
import Derived.Shelf.Vars
import Derived.Maps.OwnSet
import Derived.Maps.Range
set_option linter.unusedVariables false
namespace Go.Proofs.YtigdcgklpapfbaaGreatDoor.S3
open Go Go.Proofs Go.RowKit Go.Lib
attribute [local go_sem] Oper.semAt_some

/-- What List hands back. -/
def ListOut (r : List Str × Int) (w : World) (e : Ending) (w' : World) : Prop := (∃ v, e = .returned (.tuple #[v, .int .i64 r.2]) ∧ StrRow w' w.heap.size v r.1) ∧ Below w.heap.size w w'

theorem Boxed.under {W W2 : World} {B : Nat} {t : TypeId} {v : Value} (h : Boxed W B t v) (hb : Below W.heap.size W W2) : Boxed W2 B t v := (hb.block _ h.lt).trans h
theorem keeps_below {W W2 : World} (hb : Below W.heap.size W W2) : KeepsOthers W W2 := ⟨hb.size, fun k o hk _ => (hb.block k (Array.getElem?_eq_some_iff.1 hk).1).trans hk⟩
/-- A round has gone on. -/
theorem LInv.step {N : Nat} {w : World} {pre : List Str} {r : ByteArray} {W W2 w3 : World} {v v' : Value} {L L' : List Str} {x : Str} (h : LInv N w (pre, r) W) (hN : N ≤ w.heap.size) (hb : Below W.heap.size W W2) (hv : Boxed W (N + 2) 30 v)
    (hrow2 : StrRow W2 (N + 6) v L) (hg : W2.grownBy w3 v.ownBlock) (hown : StrRow w3 (N + 6) v' L') (hx : listGo (pre ++ [x]) [] = (L', 0)) (hl : L'.length ≤ 64) (B0 : Nat) :
    LInv N w (pre ++ [x], r) (w3.setCell ⟨N + 2, 0, none⟩ v') ∧ KeepsFrom B0 W (w3.setCell ⟨N + 2, 0, none⟩ v') := by
  have hs := h.below.size
  have hlt := hrow2.lt
  have hlt' := hown.lt
  have hne : ∀ B, B < N + 6 → some B ≠ v.ownBlock := fun B hB e => by have := hlt B e.symm; omega
  have hg2 := grownBy_setCell' w3 (N + 2) v'
  have hne2 : ∀ B, B ≠ N + 2 → some B ≠ some (N + 2) := fun B hB e => hB (by injection e)
  have up : ∀ {B : Nat} {t : TypeId} {u : Value}, Boxed W B t u → B < N + 6 → B ≠ N + 2 → Boxed (w3.setCell ⟨N + 2, 0, none⟩ v') B t u := fun hu h6 h2 => ((Boxed.under hu hb).kept hg (hne _ h6)).kept hg2 (hne2 _ h2)
  have hv3 : Boxed w3 (N + 2) 30 v := (Boxed.under hv hb).kept hg (hne _ (by omega))
  have hsz := h.size
  have hb3 : Below N w (w3.setCell ⟨N + 2, 0, none⟩ v') := ((h.below.trans (hb.mono (by omega))).grown hg (by have := hb.size; omega) (fun k hk => by have := hlt k hk; omega)).grown hg2 (by have := hb.size; have := hg.size; omega) (fun k e => by injection e; omega)
  refine ⟨⟨hb3, ?_, up h.r1 (by omega) (by omega), up h.r2 (by omega) (by omega), up h.v1 (by omega) (by omega), up h.v2 (by omega) (by omega), up h.v3 (by omega) (by omega), ⟨v', hv3.set v', ?_⟩, by rw [hx], by rw [hx]; exact hl⟩, ?_⟩
  · have := hb.size; have := hg.size; have := hg2.size; omega
  · rw [hx]
    exact World.ownsRow.kept hown hg2 (.inr fun e => by have := hlt' _ e; omega)
  · refine (((keeps_below hb).trans (KeepsOthers.of_grownBy hg fun j o ej hj => ?_)).trans (KeepsOthers.setCell _ _ _)).from _
    obtain ⟨c, hc⟩ := row_kind9 hrow2 j ej
    rw [hc] at hj
    cases hj
    rfl

theorem box_at {W : World} {n : Nat} (h : W.heap.size = n) (t : TypeId) (v : Value) : Boxed (W.alloc (.cells #[v] t)) n t v := by subst h; exact Boxed.new W t v
/-- Both results stored, the mark taken. -/
theorem list_end {N D : Nat} {W : World} {u0 u1 v e : Value} (h1 : Boxed W N 30 u0) (h2 : Boxed W (N + 1) 26 u1) (hD : N + 6 ≤ D) (hK : W.heap[D]? = some (.deferred (some []))) :
    ((W.setCell ⟨N, 0, none⟩ v).setCell ⟨N + 1, 0, none⟩ e).heap[D]? = some (.deferred (some [])) ∧
    Boxed (((W.setCell ⟨N, 0, none⟩ v).setCell ⟨N + 1, 0, none⟩ e).putObj D (.deferred none)) N 30 v ∧ Boxed (((W.setCell ⟨N, 0, none⟩ v).setCell ⟨N + 1, 0, none⟩ e).putObj D (.deferred none)) (N + 1) 26 e ∧
    Below N W (((W.setCell ⟨N, 0, none⟩ v).setCell ⟨N + 1, 0, none⟩ e).putObj D (.deferred none)) ∧
    (∀ u n xs, W.ownsRow (N + 6) 9 1 u n xs → (((W.setCell ⟨N, 0, none⟩ v).setCell ⟨N + 1, 0, none⟩ e).putObj D (.deferred none)).ownsRow (N + 6) 9 1 u n xs) := by
  have hg1 := grownBy_setCell' W N v
  have hg2 := grownBy_setCell' (W.setCell ⟨N, 0, none⟩ v) (N + 1) e
  have hg3 := grownBy_putObj' ((W.setCell ⟨N, 0, none⟩ v).setCell ⟨N + 1, 0, none⟩ e) D (.deferred none)
  have hne : ∀ a b : Nat, a ≠ b → some a ≠ some b := fun a b h e => h (by injection e)
  have hlt := h2.lt
  have k0 : ((W.setCell ⟨N, 0, none⟩ v).setCell ⟨N + 1, 0, none⟩ e).heap[D]? = some (.deferred (some [])) := (KeepsOthers.setCell _ _ _).same D _ ((KeepsOthers.setCell W _ _).same D _ hK rfl) rfl
  refine ⟨k0, ((h1.set v).kept hg2 (hne _ _ (by omega))).kept hg3 (hne _ _ (by omega)), ((h2.kept hg1 (hne _ _ (by omega))).set e).kept hg3 (hne _ _ (by omega)), ?_, ?_⟩
  · exact (((Below.refl N W).grown hg1 (by omega) (fun k e => by injection e; omega)).grown hg2 (by have := hg1.size; omega) (fun k e => by injection e; omega)).grown hg3 (by have := hg1.size; have := hg2.size; omega) (fun k e => by injection e; omega)
  · intro u n xs h
    have := h.lt
    exact ownsRow_putObj (World.ownsRow.kept (World.ownsRow.kept h hg1 (.inr fun e => by have := this _ e; omega)) hg2 (.inr fun e => by have := this _ e; omega)) _ k0 rfl

set_option maxHeartbeats 8000000 in
set_option maxRecDepth 100000 in
theorem list_any (s : ByteArray) (hs : s.size < 4294967281) (w : World) (hE : Env w) : Calls Tryz.prog 122 #[.string s] w (ListOut (listM (lst s)) w) := by
  refine (callsIn_wide (n := 9)).1 ?_
  refine callsIn_of_wp_marks Tryz.func122 rfl trivial ?_ rfl
  simp only [Tryz.ntmps122, List.size_toArray, List.length_cons, List.length_nil, Nat.reduceAdd, Nat.reduceSub, Array.replicate_succ, Array.replicate_zero, List.push_toArray, List.append_toArray, List.nil_append, List.cons_append]
  by_cases h0 : 0 < s.size
  · obtain ⟨x1, x2, x3, x4⟩ := str_no h0
    have hne := lst_ne h0
    gi_wp2_with fail
    refine ⟨trivial, ?_⟩
    refine (callsIn_wide.2 (splitSeq_any s _)).mono ?_
    rintro e w' ⟨rfl, rfl⟩
    gi_wp2
    obtain ⟨W0, hW0⟩ : ∃ W0, ((((((w.alloc (Obj.cells #[Value.slice none 0 0] 30)).alloc (Obj.cells #[Value.int IntKind.i64 0] 26)).alloc (Obj.cells #[Value.slice none 0 0] 30)).alloc (Obj.cells #[Value.string s] 9)).alloc (Obj.cells #[Value.string { data := #[59] }] 9)).alloc (Obj.cells #[Value.int IntKind.i64 0] 3)) = W0 := ⟨_, rfl⟩
    rw [hW0]
    have hI0 : LInv w.heap.size w ([], s) W0 := by
      rw [← hW0]
      exact ⟨((((((Below.refl _ w).alloc (Nat.le_refl _) _).alloc (by simp) _).alloc (by simp; omega) _).alloc (by simp; omega) _).alloc (by simp; omega) _).alloc (by simp; omega) _, by simp,
        (((((box_at rfl 30 _).alloc _).alloc _).alloc _).alloc _).alloc _, ((((box_at (by simp) 26 _).alloc _).alloc _).alloc _).alloc _, ((box_at (by simp) 9 _).alloc _).alloc _, (box_at (by simp) 9 _).alloc _, box_at (by simp) 3 _,
        ⟨.slice none 0 0, (((box_at (by simp) 30 _).alloc _).alloc _).alloc _, World.ownsRow_nil _ _ _ _⟩, rfl, by simp [listGo]⟩
    have hz0 : w.heap.size + 6 ≤ W0.heap.size := hI0.size
    have hEv := hE.size
    clear hW0
    refine range_own (by omega) (gf := 229) (lb := #[.pointer (some ⟨w.heap.size + 3 + 1, 0, none⟩), .pointer (some ⟨w.heap.size + 3, 0, none⟩), .pointer (some ⟨w.heap.size + 3 + 2, 0, none⟩)]) rfl (enters_of Tryz.func229 (by kernel_rfl) rfl) (w.heap.size + 3) (by omega)
      (fun st x => ∃ rest, splitL (lst s) = st.1 ++ lst x :: rest) (fun st x => (st.1 ++ [lst x], st.2)) (fun st => st.1 = splitL (lst s)) (LInv w.heap.size w) (LErr w.heap.size w (lst s)) ([], s)
      (split_iter _ (w.heap.size + 3) s (by omega) _ (fun st W h => h.vars) (fun st r W h => h.turn (Nat.le_refl _) r)) rfl (LInv.own (Nat.le_refl _) hz0) (LErr.own (Nat.le_refl _) hz0) hI0
      (fun x => { tmps := #[.string s, undef, .pointer (some ⟨w.heap.size, 0, none⟩), .pointer (some ⟨w.heap.size + 1, 0, none⟩), .pointer (some ⟨w.heap.size + 1 + 1, 0, none⟩), .string x, undef, undef, undef, .string s, .bool false, .string s,
        .func (.func 229) #[] #[.pointer (some ⟨w.heap.size + 1 + 1 + 1 + 1, 0, none⟩), .pointer (some ⟨w.heap.size + 1 + 1 + 1, 0, none⟩), .pointer (some ⟨w.heap.size + 1 + 1 + 1 + 2, 0, none⟩)],
        .string x, undef, undef, undef, undef, undef, undef, undef, undef, undef, undef, undef, undef, undef, undef, undef, undef, undef, undef, undef, undef], defers := [] }) ?assign ?body ?done ?stop
    case assign =>
      intro l x W K hK
      gi_wp2
      exact hK
    case body =>
      rintro l ⟨pre, r⟩ x W hI ⟨rest, hrest⟩
      obtain ⟨v, hv, hrow⟩ := hI.acc
      have hok := hI.ok
      have h64 := hI.len
      dsimp only at hrow hok h64 hrest ⊢
      obtain ⟨A, c, hvA, hc1, hc2, hin⟩ := hrow.strsIn
      subst hvA
      have hxs : x.size < 4294967281 := by
        have := splitL_mem (lst s) (lst x) (by rw [hrest]; simp)
        rw [show (lst x).length = x.size from (Lib.size_eq x).symm, show (lst s).length = s.size from (Lib.size_eq s).symm] at this
        omega
      obtain ⟨L, hL⟩ : ∃ L, (listGo pre []).1 = L := ⟨_, rfl⟩
      have hgo : ∀ qs, listGo (pre ++ qs) [] = listGo qs L := fun qs => by rw [listGo_app _ _ _ hok, hL]
      rw [hL] at hrow hc1 hin hv h64
      have hB := hI.below
      have hEW : Env W := env_grown hE hI.below hEv
      have cP := readPart_any x (64 - (L.length : Int)) hxs (by omega) W hEW
      obtain ⟨⟨l2, e2⟩, hR⟩ : ∃ R, partM (lst x) (64 - (L.length : Int)) = R := ⟨_, rfl⟩
      rw [hR] at cP
      have hcell := hv.cell
      have HRow := hid hrow
      have HIn := hid hin
      have HGo := hid hgo
      have HOk := hid hok
      clear hrow hin hgo hL hok hEW
      by_cases h2 : e2 = 0
      · subst h2
        have hpo := partM_ok (lst x) (64 - (L.length : Int)) (by rw [hR])
        rw [hR] at hpo
        obtain ⟨hp1, hp2⟩ := hpo
        dsimp only at hp1 hp2
        gi_wp2_with fail
        refine ⟨trivial, ?_⟩
        refine (CallsIn.inRound l (callsIn_wide.2 cP)).mono ?_
        rintro e W2 ⟨⟨v2, rfl, hrow2⟩, hb2⟩
        obtain ⟨m, hm⟩ : ∃ m, l2.length = m + 1 := ⟨l2.length - 1, by omega⟩
        have hq := hrow2
        unfold StrRow at hq
        dsimp only at hq
        rw [hm] at hq
        obtain ⟨g, cap, rfl⟩ := ownsRow_succ hq
        have hv2 := Boxed.under hv hb2
        have hcell2 := hv2.cell
        have hrowW2 : StrRow W2 (w.heap.size + 6) (.slice A L.length c) L := row_under HRow.out hb2
        have hcs : ∀ j u, (strVals l2)[j]? = some u → W2.cell? ((⟨g, 0, none⟩ : Addr).add j) = some u := World.ownsRow.cells hq rfl
        have hone : ∀ u ∈ strVals l2, u.oneCell' = true := by
          intro u hu
          obtain ⟨a, _, rfl⟩ := List.mem_map.1 hu
          rfl
        have hsz6 : w.heap.size + 6 ≤ W2.heap.size := by have := hI.size; have := hb2.size; omega
        have hnl : (strVals l2).length = (m + 1) * 1 := by rw [strVals_len, hm]; omega
        have hmx : L.length + (m + 1) ≤ maxLen := by unfold maxLen; omega
        have hby : (L.length + (m + 1)) * 16 ≤ 140737488355328 := by omega
        obtain ⟨i9, hi9, hz9, hsi9, hby9⟩ := info_parts infoStr
        have HRow2 := hid hrowW2
        have HCs := hid hcs
        have HOne := hid hone
        have HQ := hid hq
        have HNl := hid hnl
        have HMx := hid hmx
        have HBy := hid hby
        have H6 := hid hsz6
        clear hrow2 hq hrowW2 hcs hone hnl hmx hby hsz6
        gi_wp2_with (gi_at_builtin; refine wpListIn_append_own _ rfl _ _ 30 rfl (w.heap.size + 6) 9 i9 (.string ⟨#[]⟩) 1 16 Tryz.underlying30 hi9 hz9 hsi9 hby9 rfl (by decide) _ L.length (strVals L) rfl HRow2.out ⟨g, 0, none⟩ (m + 1) cap (strVals l2) rfl HNl.out HCs.out HOne.out HMx.out HBy.out H6.out ?_)
        intro v' w3 hown' hgrow _
        obtain ⟨g', cap', rfl⟩ := ownsRow_succ (k := L.length + m) hown'
        have hv3 : Boxed w3 (w.heap.size + 2) 30 (.slice A L.length c) := hv2.kept hgrow (fun e => by have := HRow2.out.lt _ e.symm; omega)
        have hcell3 := hv3.cell
        have hfz3 := hv3.frozen
        have hown2 : StrRow w3 (w.heap.size + 6) (.slice (some ⟨g', 0, none⟩) (L.length + m + 1) cap') (L ++ l2) := by
          unfold StrRow
          rw [strVals_app, List.length_append, hm]
          exact hown'
        gi_wp2
        obtain ⟨i1, i2⟩ := LInv.step hI (Nat.le_refl _) hb2 hv HRow2.out hgrow hown2 (x := lst x) (by rw [HGo.out]; simp [listGo, hR]) (by simp; omega) W0.heap.size
        exact ⟨i2, i1⟩
      · have hgo2 : listGo (splitL (lst s)) [] = ([], e2) := by rw [hrest, HGo.out]; simp [listGo, hR, h2]
        have HGo2 := hid hgo2
        clear hgo2
        gi_wp2_with fail
        refine ⟨trivial, ?_⟩
        refine (CallsIn.inRound l (callsIn_wide.2 cP)).mono ?_
        rintro e W2 ⟨⟨v2, rfl, hrow2⟩, hb2⟩
        clear hrow2
        have k1 := Boxed.under hI.r1 hb2
        have k2 := Boxed.under hI.r2 hb2
        have f1 := k1.frozen
        have f2 := k2.frozen
        have g1 := k1.cell
        have g2 := k2.cell
        gi_wp2
        have q1 := grownBy_setCell' W2 w.heap.size (.slice none 0 0)
        have q2 := grownBy_setCell' (W2.setCell ⟨w.heap.size, 0, none⟩ (.slice none 0 0)) (w.heap.size + 1) (.int .i64 e2)
        have hne' : ∀ a b : Nat, a ≠ b → some a ≠ some b := fun a b h e => h (by injection e)
        refine ⟨(((keeps_below hb2).trans (KeepsOthers.setCell _ _ _)).trans (KeepsOthers.setCell _ _ _)).from _, ⟨?_, e2, by rw [HGo2.out], h2, (k1.set _).kept q2 (hne' _ _ (by omega)), (k2.kept q1 (hne' _ _ (by omega))).set _⟩⟩
        have hz2 := hb2.size
        have hzW := hI.size
        exact ((hB.trans (hb2.mono (by omega))).grown q1 (by omega) (fun k e => by injection e; omega)).grown q2 (by have := q1.size; omega) (fun k e => by injection e; omega)
    case done =>
      rintro D ⟨pre, r⟩ W hD hfin hI hK
      obtain ⟨v, hv, hrow⟩ := hI.acc
      have hok := hI.ok
      have h64 := hI.len
      dsimp only at hfin hrow hok h64
      rw [hfin] at hrow hok h64
      obtain ⟨A, c, hvA, hc1, hc2, hin⟩ := hrow.strsIn
      subst hvA
      have hM : listM (lst s) = if checkM (listGo (splitL (lst s)) []).1 ≠ 0 then ([], checkM (listGo (splitL (lst s)) []).1) else ((listGo (splitL (lst s)) []).1, 0) := by
        unfold listM
        rw [if_neg hne, if_neg (by rw [hok]; simp)]
      obtain ⟨L, hL⟩ : ∃ L, (listGo (splitL (lst s)) []).1 = L := ⟨_, rfl⟩
      rw [hL] at hM hrow hc1 hin hv h64
      have cC := check_any A L c _ W hin hc1 hc2
      have hcell := hv.cell
      have f1 := hI.r1.frozen
      have f2 := hI.r2.frozen
      have g1 := hI.r1.cell
      have g2 := hI.r2.cell
      have hBelow := hI.below
      by_cases hk : checkM L = 0
      · rw [if_neg (by simpa using hk)] at hM
        rw [hk] at cC
        gi_wp2_with fail
        refine ⟨trivial, ?_⟩
        refine (callsIn_wide.2 cC).mono ?_
        rintro e w' ⟨rfl, rfl⟩
        gi_wp2
        obtain ⟨k0, k1, k2, k3, k4⟩ := list_end (v := .slice A L.length c) (e := .int .i64 0) hI.r1 hI.r2 (D := D) (by omega) hK
        refine ⟨by simp, .inl ⟨_, _, rfl, run_takeDeferred k0, ?_⟩⟩
        refine ⟨_, results_cc rfl _ _ _ _ _ _ _ rfl rfl (loadStrs k1.cell) (loadErr k2.cell), ?_⟩
        rw [hM]
        exact ⟨⟨_, rfl, StrRow.mono (k4 _ _ _ hrow) (by omega)⟩, hBelow.trans k3⟩
      · rw [if_pos hk] at hM
        obtain ⟨e0, he0⟩ : ∃ e0, checkM L = e0 := ⟨_, rfl⟩
        rw [he0] at cC hM hk
        gi_wp2_with fail
        refine ⟨trivial, ?_⟩
        refine (callsIn_wide.2 cC).mono ?_
        rintro e w' ⟨rfl, rfl⟩
        gi_wp2
        obtain ⟨k0, k1, k2, k3, k4⟩ := list_end (v := .slice none 0 0) (e := .int .i64 e0) hI.r1 hI.r2 (D := D) (by omega) hK
        refine ⟨by simp, .inl ⟨_, _, rfl, run_takeDeferred k0, ?_⟩⟩
        refine ⟨_, results_cc rfl _ _ _ _ _ _ _ rfl rfl (loadStrs k1.cell) (loadErr k2.cell), ?_⟩
        rw [hM]
        exact ⟨⟨_, rfl, World.ownsRow_nil _ _ _ _⟩, hBelow.trans k3⟩
    case stop =>
      rintro D W hD ⟨hb, e, he, hne0, h1, h2⟩ hK
      have hM : listM (lst s) = ([], e) := by
        unfold listM
        rw [if_neg hne, if_pos (by rw [he]; exact hne0), he]
      have hg3 := grownBy_putObj' W D (.deferred none)
      have hne' : ∀ a b : Nat, a ≠ b → some a ≠ some b := fun a b h e => h (by injection e)
      gi_wp2
      refine ⟨by simp, .inl ⟨_, _, rfl, run_takeDeferred hK, ?_⟩⟩
      refine ⟨_, results_cc rfl _ _ _ _ _ _ _ rfl rfl (loadStrs (h1.kept hg3 (hne' _ _ (by omega))).cell) (loadErr (h2.kept hg3 (hne' _ _ (by omega))).cell), ?_⟩
      rw [hM]
      exact ⟨⟨_, rfl, World.ownsRow_nil _ _ _ _⟩, hb.grown hg3 hb.size (fun k e => by injection e; omega)⟩
  · obtain ⟨x1, x2, x3, x4⟩ := str_yes h0
    have hnil := lst_nil h0
    have hM : listM (lst s) = ([], 0) := by rw [hnil]; rfl
    gi_wp2
    refine ⟨_, results_cc rfl _ _ _ _ _ _ _ rfl rfl (loadStrs (x := .slice none 0 0) ?_) (loadErr (x := .int .i64 0) ?_), ?_⟩
    · simp
    · simp
    · rw [hM]
      exact ⟨⟨_, rfl, World.ownsRow_nil _ _ _ _⟩, ((Below.refl _ w).alloc (Nat.le_refl _) _).alloc (by simp) _⟩

end Go.Proofs.YtigdcgklpapfbaaGreatDoor.S3

set_option linter.unusedVariables false
namespace Go.Proofs.YtigdcgklpapfbaaGreatDoor.S3
open Go Go.Proofs Go.RowKit Go.Lib

theorem ba_size (a : Str) : (ba a).size = a.length := by
  show a.toArray.size = _
  simp
theorem StrsIn.rest {w : World} {P : Nat → Prop} {A : Option Addr} {l : List Str} (h : StrsIn w P A l) (n c : Nat) (hlc : l.length ≤ c) : StrsIn w P (if c = n then A else A.map (·.add n)) (l.drop n) := by
  by_cases hn : n < l.length
  · rw [if_neg (by omega)]
    rcases h with h | ⟨b, off, rfl, hP, hc⟩
    · subst h; simp at hn
    · refine .inr ⟨b, off + n, by rw [Option.map_some, Addr.add_lit], hP, fun j s hj => ?_⟩
      rw [List.getElem?_drop] at hj
      rw [show off + n + j = off + (n + j) by omega]
      exact hc _ _ hj
  · exact .inl (List.drop_of_length_le (by omega))

end Go.Proofs.YtigdcgklpapfbaaGreatDoor.S3

set_option linter.unusedVariables false
namespace Go.Proofs.YtigdcgklpapfbaaGreatDoor
open Go Go.Proofs Go.RowKit Go.Lib

def codesR (l : List RoomD) : List Str := l.map (·.1)
/-! ### ascending -/
/-! ### texts -/
/-! ### numbers of at most so many digits -/
def numD (D : Nat) (s : Str) : Nat := if s ≠ [] ∧ s.length ≤ D ∧ s.all S3.dg = true ∧ s.head? ≠ some 48 then S3.numN s else 0
end Go.Proofs.YtigdcgklpapfbaaGreatDoor

set_option linter.unusedVariables false
namespace Go.Proofs.YtigdcgklpapfbaaGreatDoor
open Go Go.Proofs Go.RowKit Go.Lib

/-- What the package-level variables hold. -/
structure Env7 (w : World) : Prop where
  e : Env w
  s : S3.Env w
  d : Days w
theorem Env7.below {w w' : World} (h : Env7 w) {B : Nat} (hb : Below B w w') (hB : w.heap.size ≤ B) : Env7 w' := by
  have hsz := h.e.size
  have hb' : Below w.heap.size w w' := hb.mono hB
  exact ⟨h.e.below hb' hsz, h.s.below hb', h.d.below hb' hsz⟩
end Go.Proofs.YtigdcgklpapfbaaGreatDoor

set_option linter.unusedVariables false
namespace Go.Proofs.YtigdcgklpapfbaaGreatDoor
open Go Go.Proofs Go.ChangeShapes Go.WideShapes Go.ChangeAt Go.RowKit

section
variable {H : Type} {enc : TypeId × Value → H} {P : Program}
/-- Arguments below the heap's old size read as they did. -/
theorem trodAll_stays (hl : laidOutB P = true) {W W' : World} (hb : Below W.heap.size W W') {sp : Nat → Bool} : ∀ {ts : List TypeId} {vs : List Value} {ds : List (DataW H)} {ps : List MemPlace},
    (∀ t ∈ ts, P.readableRec t = true ∧ t < P.types.size) → DataW.TrodAll enc P W 0 (fun _ => true) true ts vs ds ps → (∀ x ∈ ps, x.block < W.heap.size) → (∀ x ∈ ps, sp x.block = true) → DataW.TrodAll enc P W' 0 sp true ts vs ds ps
  | [], vs, ds, ps, _, h, _, _ => by
    obtain ⟨rfl, rfl, rfl⟩ := trodAll_nil h
    exact trodAll_mk0
  | t :: ts, vs, ds, ps, ht, h, hlt, hsp => by
    obtain ⟨v, vs', d, ds', p, q, rfl, rfl, rfl, h0, hr⟩ := trodAll_cons h
    have hp : ∀ x ∈ p, x.block < W.heap.size := fun x hx => hlt x (List.mem_append.2 (.inl hx))
    refine trodAll_cons_mk (WideElems.Trod_stays hl (ht t (by simp)).1 (ht t (by simp)).2 h0 (fun x hx => hb.same (hp x hx)) (fun x hx => hsp x (List.mem_append.2 (.inl hx)))) ?_
    exact trodAll_stays hl hb (fun t' h' => ht t' (by simp [h'])) hr (fun x hx => hlt x (List.mem_append.2 (.inr hx))) (fun x hx => hsp x (List.mem_append.2 (.inr hx)))

/-- The law's end. -/
theorem law_post {f : Func} {s : ChangeSpec} {apart fresh again : Bool} {tb : TypeId} {W W' : World} {args : Array Value} {ds gs : List (DataW H)} {before : List MemPlace}
    (hl : laidOutB P = true) (hts : ∀ t ∈ f.params.toList, P.readableRec t = true ∧ t < P.types.size) (hres : f.resultTypes = #[tb]) (htb : P.underlying tb = some .bool)
    (hvars : s.vars = []) (hfn : s.fn H (ds ++ gs) = { results := [.lit (.bool true)], args := ds, vars := [] })
    (hW : DataW.Whole enc P f.params.toList s.vars apart W args.toList ds gs before) (hb : Below W.heap.size W W') :
    s.post enc P f apart fresh false again W args (.bool true) W' := by
  have hlt : ∀ p ∈ before, p.block < W.heap.size := fun p hp => hW.lt p hp
  have hW0 := hW
  obtain ⟨p, q, hA, hV, hpq, hz, hn⟩ := hW0
  rw [hvars] at hV
  obtain ⟨rfl, rfl⟩ := trodVars_none hV
  rw [List.append_nil] at hpq
  subst hpq
  have hr : ∀ (b : Nat) (sp : Nat → Bool) (hd : Bool), DataW.TrodAll enc P W' b sp hd f.resultTypes.toList ((Value.bool true).resultList f.resultTypes.size) (s.fn H (ds ++ [])).results [] := fun b sp hd => by
    rw [hres, hfn]
    exact trodAll_cons_mk (shut_bool htb true) trodAll_mk0
  have ha : ∀ sp : Nat → Bool, (∀ x ∈ before, sp x.block = true) → DataW.TrodAll enc P W' 0 sp true f.params.toList args.toList (s.fn H (ds ++ [])).args before := fun sp hsp => by
    rw [hfn]
    exact trodAll_stays hl hb hts hA hlt hsp
  have hold : ∀ x ∈ before, (fun b => decide (b < W.heap.size)) x.block = true := fun x hx => by simpa using hlt x hx
  have hvs : ∀ sp : Nat → Bool, DataW.TrodVars enc P W' sp s.vars (s.fn H (ds ++ [])).vars [] := fun sp => by
    rw [hvars, hfn]
    exact rfl
  refine ⟨ds, [], before, [], before, [], hW, hr _ _ _, ha _ hold, hvs _, World.keptBut_mono (fun x hx => ⟨hx, .inr (.inl hx)⟩) (hb.frame (· ∈ before)), fun _ => ?_⟩
  refine ⟨?_, _, _, ([] ++ before) ++ [], ⟨[] ++ before, [], trodAll_append (ha _ (fun _ _ => rfl)) (hr _ _ _), hvs _, rfl, ?_, ?_⟩, ?_⟩
  · intro j t r hj hr'
    rw [hres] at hj hr'
    match j, hj, hr' with
    | 0, hj, hr' =>
      simp at hj
      subst hj
      obtain rfl : (Value.bool true) = r := by simpa [Value.resultList] using hr'
      exact okWide_bool_mk htb true
    | j + 1, hj, _ => simp at hj
  · intro b off hp
    have hin : MemPlace.cell b off ∈ before := by simpa using hp
    rw [hb.frozen (hlt _ hin)]
    exact hz b off hin
  · intro h
    simpa using hn h
  · intro x hx _
    simpa using hx
end

theorem own : ownKnob Tryz.prog.godebug = none := by kernel_rfl
theorem laidOut : laidOutB Tryz.prog = true := by kernel_rfl
theorem row3 : Tryz.prog.readableRec 3 = true ∧ 3 < Tryz.prog.types.size := ⟨by kernel_rfl, of_decide_eq_true (by kernel_rfl)⟩
theorem rowInts : Tryz.prog.readableRec 29 = true ∧ 29 < Tryz.prog.types.size := ⟨by kernel_rfl, of_decide_eq_true (by kernel_rfl)⟩
theorem uErr : Tryz.prog.underlying 177 = some (.interface #[("Error", 180)]) := by kernel_rfl
theorem star : "*" ++ "errors.errorString" = "*errors.errorString" := by decide
theorem rowPtr (u : TypeId) (h : Tryz.prog.typeName? 3 u = some "*errors.errorString") : u = 298 :=
  typeName_ptr_named (nm := "errors.errorString") (by rw [star]; kernel_rfl) (by kernel_rfl) (by decide) u (by rw [star]; exact h)
theorem gSyn : Tryz.prog.globalNamed "strconv.ErrSyntax" = some 8 := by kernel_rfl
theorem gNames : Tryz.prog.globalNamed "timetable/weekset.names" = some 5 := by kernel_rfl
theorem gDays : Tryz.prog.globalNamed "timetable/timegrid.days" = some 4 := by kernel_rfl
section
variable {H : Type} {enc : TypeId × Value → H} {w : World} {base : Nat} {sp : Nat → Bool} {held : Bool}
theorem take1 {cs : List Value} {k : Nat} {v : Value} (h : (cs.drop k).take 1 = [v]) : cs[k]? = some v := by
  have := congrArg (·[0]?) h
  simpa [List.getElem?_take, List.getElem?_drop] using this
theorem name_cells {fuel : Nat} {cs : List Value} {d : List (DataW H)} {p : List MemPlace} {T : Str} {m : Int} {a b : Bool} (h : DataW.trod enc Tryz.prog w base sp held fuel 208 cs = some (.agg d, p)) (hd : d = [.lit (.string T), .lit (.int .i64 m), .lit (.bool a), .lit (.bool b)]) :
    cs = [.string ⟨T.toArray⟩, .int .i64 m, .bool a, .bool b] := by
  obtain ⟨y0, y1, y2, y3, n, hx, hl, h0, h1, h2, h3⟩ := Joins.trod_struct4 Tryz.underlying208 h
  rw [show Tryz.prog.cellsOf 208 = 4 by kernel_rfl] at hl
  dsimp only at h0 h1 h2 h3
  rw [show Tryz.prog.cellsOf 9 = 1 by kernel_rfl] at h0
  rw [show Tryz.prog.cellsOf 3 = 1 by kernel_rfl] at h1
  rw [show Tryz.prog.cellsOf 4 = 1 by kernel_rfl] at h2 h3
  obtain ⟨s, hc0, rfl, _⟩ := DataW.trod_string Tryz.underlying9 h0
  obtain ⟨z, hc1, rfl, _⟩ := DataW.trod_int Tryz.underlying3 h1
  obtain ⟨x, hc2, rfl⟩ := DataW.trod_bool Tryz.underlying4 h2
  obtain ⟨y, hc3, rfl⟩ := DataW.trod_bool Tryz.underlying4 h3
  rw [hd] at hx
  simp only [Prod.mk.injEq, DataW.agg.injEq, List.cons.injEq, DataW.lit.injEq, Lit.string.injEq, Lit.int.injEq, Lit.bool.injEq, true_and, and_true] at hx
  obtain ⟨⟨hT, rfl, rfl, rfl⟩, _⟩ := hx
  have e : (⟨T.toArray⟩ : ByteArray) = s := by rw [hT]
  rw [e]
  match cs, hl with
  | [c0, c1, c2, c3], _ =>
    have := take1 hc0
    have := take1 hc1
    have := take1 hc2
    have := take1 hc3
    simp_all
theorem name_cell {fuel : Nat} {cs : List Value} {p : List MemPlace} (h : DataW.trod enc Tryz.prog w base sp held fuel 209 cs = some (Rows.laid_timetable_weekset_names, p)) (k : Nat) (hk : k < 5) : (cs.drop (k * 4)).take 4 = (nv k).toList := by
  obtain ⟨f', d, q, hd, ht⟩ := Lib.array_elem Tryz.underlying209 h k hk
  rw [show Tryz.prog.cellsOf 208 = 4 by kernel_rfl] at ht
  rcases (show k = 0 ∨ k = 1 ∨ k = 2 ∨ k = 3 ∨ k = 4 by omega) with rfl | rfl | rfl | rfl | rfl
  all_goals
    injection hd with hd
    rw [← hd] at ht
    exact name_cells ht rfl
theorem day_cell {fuel : Nat} {cs : List Value} {p : List MemPlace} (h : DataW.trod enc Tryz.prog w base sp held fuel 115 cs = some (Rows.laid_timetable_timegrid_days, p)) (k : Nat) (hk : k < 7) : cs[k]? = some (.string (ba (dayS k))) := by
  obtain ⟨f', d, q, hd, ht⟩ := Lib.array_elem Tryz.underlying115 h k hk
  rw [show Tryz.prog.cellsOf 9 = 1 by kernel_rfl, Nat.mul_one] at ht
  obtain ⟨s, hcs, hx, _⟩ := DataW.trod_string Tryz.underlying9 ht
  rw [take1 hcs]
  injection hx with hx _
  subst hx
  have e : lst s = dayS k := by
    rcases (show k = 0 ∨ k = 1 ∨ k = 2 ∨ k = 3 ∨ k = 4 ∨ k = 5 ∨ k = 6 by omega) with rfl | rfl | rfl | rfl | rfl | rfl | rfl
    all_goals
      injection hd with hd
      injection hd with hd
      injection hd with hd
      exact hd.symm
  rw [ba_of e]
end
theorem nameCells_at : ∀ (j : Nat) (v : Value), nameCells[j]? = some v → j / 4 < 5 ∧ (nv (j / 4)).toList[j % 4]? = some v := by
  intro j v h
  have hj : j < 20 := (List.getElem?_eq_some_iff.1 h).1
  rcases (show j = 0 ∨ j = 1 ∨ j = 2 ∨ j = 3 ∨ j = 4 ∨ j = 5 ∨ j = 6 ∨ j = 7 ∨ j = 8 ∨ j = 9 ∨ j = 10 ∨ j = 11 ∨ j = 12 ∨ j = 13 ∨ j = 14 ∨ j = 15 ∨ j = 16 ∨ j = 17 ∨ j = 18 ∨ j = 19 by omega) with rfl | rfl | rfl | rfl | rfl | rfl | rfl | rfl | rfl | rfl | rfl | rfl | rfl | rfl | rfl | rfl | rfl | rfl | rfl | rfl
  all_goals exact ⟨by decide, h⟩
/-- The variable ErrSyntax holds an error. -/
theorem errSyntax_ofL {W : World} {L : List (String × DataW Unit)} (hL : laidMet Tryz.prog (("strconv.ErrSyntax", Rows.laid_strconv_ErrSyntax) :: L) W) : ∃ ev, W.cell? ⟨8, 0, none⟩ = some ev ∧ (ev = .nilIface ∨ ∃ te pe, ev = .iface te pe) := by
  obtain ⟨a, s, hv, _⟩ := laid_sentinel hL gSyn (ti := 177) (tp := 298) (te := 300) (ts := 9) (f := { name := "s", type := 9, offset := 0, embedded := false, tag := "", pkgPath := "errors", byteOffset := 0 }) (ms := #[("Error", 180)]) (by kernel_rfl) uErr rowPtr (by kernel_rfl) (by kernel_rfl) rfl rfl (by kernel_rfl) (by kernel_rfl) (by kernel_rfl)
  exact ⟨_, World.var?_cell gSyn hv 0, .inr ⟨_, _, rfl⟩⟩
theorem names_ofL {W : World} {L : List (String × DataW Unit)} (hL : laidMet Tryz.prog L W) (hm : ("timetable/weekset.names", (Rows.laid_timetable_weekset_names : DataW Unit)) ∈ L) : Names W := by
  obtain ⟨g, t, cs, fuel, p, hg, hty, hvar, hd⟩ := Lib.laidMet.reads hL hm
  obtain rfl := Option.some.inj (gNames.symm.trans hg)
  obtain rfl := Option.some.inj ((show (Tryz.prog.globals[5]?).map (·.type) = some 209 by kernel_rfl).symm.trans hty)
  intro j v hj
  rw [World.var?_cell gNames hvar j, ← Array.getElem?_toList]
  obtain ⟨h5, hv⟩ := nameCells_at j v hj
  rw [← name_cell hd (j / 4) h5, List.getElem?_take, if_pos (by omega), List.getElem?_drop, show j / 4 * 4 + j % 4 = j by omega] at hv
  exact hv
theorem days_ofL {W : World} {L : List (String × DataW Unit)} (hL : laidMet Tryz.prog L W) (hm : ("timetable/timegrid.days", (Rows.laid_timetable_timegrid_days : DataW Unit)) ∈ L) : Days W := by
  obtain ⟨g, t, cs, fuel, p, hg, hty, hvar, hd⟩ := Lib.laidMet.reads hL hm
  obtain rfl := Option.some.inj (gDays.symm.trans hg)
  obtain rfl := Option.some.inj ((show (Tryz.prog.globals[4]?).map (·.type) = some 115 by kernel_rfl).symm.trans hty)
  intro j v hj
  have hj7 : j < 7 := (List.getElem?_eq_some_iff.1 hj).1
  rw [World.var?_cell gDays hvar j, ← Array.getElem?_toList, day_cell hd j hj7, ← hj]
  rcases (show j = 0 ∨ j = 1 ∨ j = 2 ∨ j = 3 ∨ j = 4 ∨ j = 5 ∨ j = 6 by omega) with rfl | rfl | rfl | rfl | rfl | rfl | rfl <;> rfl
theorem maxLen_of {W : World} (h : W.ShapedOpen Tryz.prog) : ∃ m, W.cell? ⟨7, 0, none⟩ = some (.int .i64 m) :=
  cell_of_shapedOpen_int (t := 3) (zero := #[.int .i64 0]) h (of_decide_eq_true (by kernel_rfl)) (by kernel_rfl) rfl (by kernel_rfl) (by kernel_rfl) Tryz.underlying3
theorem env_ofL {W : World} (h : Names W) (he : ∃ ev, W.cell? ⟨8, 0, none⟩ = some ev ∧ (ev = .nilIface ∨ ∃ te pe, ev = .iface te pe)) : Env W := by
  obtain ⟨ev, h1, h2⟩ := he
  exact ⟨h, ⟨ev, h1, h2⟩, World.block_lt_of_cell? W _ h1⟩
theorem env3_ofL {W : World} {L : List (String × DataW Unit)} (hL : laidMet Tryz.prog L W) (hm : ("internal/strconv.uint64pow10", (Rows.laid_internal_strconv_uint64pow10 : DataW Unit)) ∈ L) (hsh : W.ShapedOpen Tryz.prog) (he : ∃ ev, W.cell? ⟨8, 0, none⟩ = some ev ∧ (ev = .nilIface ∨ ∃ te pe, ev = .iface te pe)) : S3.Env W := by
  refine ⟨maxLen_of hsh, he, ?_, by obtain ⟨ev, h1, _⟩ := he; exact World.block_lt_of_cell? W _ h1⟩
  obtain ⟨g, t, cs, fuel, p, hg, hty, hvar, hd⟩ := Lib.laidMet.reads hL hm
  obtain rfl := Option.some.inj (S3.gTab.symm.trans hg)
  obtain rfl := Option.some.inj ((show (Tryz.prog.globals[6]?).map (·.type) = some 243 by kernel_rfl).symm.trans hty)
  have hcs := Lib.cells_of_tab (n := 20) (e := 202) (zs := Lib.pow10Tab) (k := .u64) (by kernel_rfl) (by kernel_rfl) (by kernel_rfl) (by kernel_rfl) hd
  unfold Lib.TabIs
  rw [hvar, ← hcs]
theorem env7_ofL {W : World} {L : List (String × DataW Unit)} (hL : laidMet Tryz.prog L W) (hsh : W.ShapedOpen Tryz.prog) (hn : ("timetable/weekset.names", (Rows.laid_timetable_weekset_names : DataW Unit)) ∈ L) (hd : ("timetable/timegrid.days", (Rows.laid_timetable_timegrid_days : DataW Unit)) ∈ L)
    (hp : ("internal/strconv.uint64pow10", (Rows.laid_internal_strconv_uint64pow10 : DataW Unit)) ∈ L) (he : ∃ ev, W.cell? ⟨8, 0, none⟩ = some ev ∧ (ev = .nilIface ∨ ∃ te pe, ev = .iface te pe)) : Env7 W :=
  ⟨env_ofL (names_ofL hL hn) he, env3_ofL hL hp hsh he, days_ofL hL hd⟩
/-- A world in which the variables hold what their initialisers lay. -/
def cellsOfAgg : DataW Unit → Array Value
  | .agg l => (l.map fun | .lit (.int k z) => Value.int k z | _ => undef).toArray
  | _ => #[]
def acceptCells : Array Value := ((List.range 16).flatMap fun i => [Value.int .u8 (Lib.accLo i), Value.int .u8 (Lib.accHi i)]).toArray
def firstCells : Array Value := ((List.range 256).map fun b => Value.int .u8 (Lib.firstT b)).toArray
noncomputable def laidWorld (os : Os) : World :=
  let N := (World.settled Tryz.prog os).heap.size
  let w0 := World.holding Tryz.prog os ⟨#[.cells #[.string ⟨#[105, 110, 118, 97, 108, 105, 100, 32, 115, 121, 110, 116, 97, 120]⟩] 300, .cells #[.string ⟨#[118, 97, 108, 117, 101, 32, 111, 117, 116, 32, 111, 102, 32, 114, 97, 110, 103, 101]⟩] 300, .cells #[.string ⟨#[97, 100, 97]⟩, .string ⟨#[98, 111, 98]⟩, .string ⟨#[99, 121]⟩] 9, .cells #[.string ⟨#[98, 101, 97, 109, 101, 114]⟩, .string ⟨#[108, 97, 98]⟩, .string ⟨#[112, 105, 97, 110, 111]⟩] 9], #[], []⟩
  let put (h : Array Obj) (g : Nat) (cs : Array Value) : Array Obj := h.modify g fun
    | .cells _ t frozen => .cells cs t frozen
    | o => o
  let h3 := put (put (put (put (put (put (put (put (put (put (put (put (put (w0.heap) 1 #[.string ⟨#[97, 108, 108]⟩, .string ⟨#[111, 100, 100]⟩, .string ⟨#[101, 118, 101, 110]⟩, .string ⟨#[102, 105, 114, 115, 116]⟩, .string ⟨#[115, 101, 99, 111, 110, 100]⟩]) 5 nameCells.toArray) 4 dayCells.toArray) 2 dayCells.toArray) 12 firstCells) 13 acceptCells) 8 #[.iface 298 (.pointer (some ⟨N, 0, none⟩))]) 9 #[.iface 298 (.pointer (some ⟨N + 1, 0, none⟩))]) 6 (cellsOfAgg Rows.laid_internal_strconv_uint64pow10)) 10 (cellsOfAgg Rows.laid_math_bits_deBruijn32tab)) 11 (cellsOfAgg Rows.laid_math_bits_deBruijn64tab)) 0 #[.slice (some ⟨N + 2, 0, none⟩) 3 3]) 3 #[.slice (some ⟨N + 3, 0, none⟩) 3 3]
  { w0 with heap := h3 }
end Go.Proofs.YtigdcgklpapfbaaGreatDoor

set_option linter.unusedVariables false
namespace Go.Proofs.YtigdcgklpapfbaaGreatDoor
open Go Go.Proofs Go.RowKit Go.Lib
open Go.Maps (Keyed string_keyed)
open Go.WideMaps (keyOf_string_mk)

def litS (s : Str) : Lit := .string s
def setR (l : List Str) : DataW Unit := Maps.setOf (.agg []) (l.map litS)
theorem keyLit (s : Str) : WideAt.IsKeyLit (litS s) := by unfold litS; constructor
theorem sameKey_litS (a b : Str) : (litS a).sameKey (litS b) = decide (a = b) := by
  by_cases h : a = b
  · subst h
    rw [WideAt.sameKey_self (keyLit a), decide_eq_true rfl]
  · rw [Maps.sameKey_ne (fun e => h (by unfold litS at e; injection e)), decide_eq_false h]
theorem has_setR (l : List Str) (c : Str) : Maps.has (setR l) (litS c) = decide (c ∈ l) := by
  unfold setR
  rw [Maps.has_setOf _ _ _ (fun x hx => by obtain ⟨s, _, rfl⟩ := List.mem_map.1 hx; exact keyLit s)]
  rw [Bool.eq_iff_iff, List.any_eq_true, decide_eq_true_eq]
  constructor
  · rintro ⟨x, hx, hk⟩
    obtain ⟨s, hs, rfl⟩ := List.mem_map.1 hx
    rw [sameKey_litS, decide_eq_true_eq] at hk
    subst hk
    exact hs
  · intro h
    exact ⟨litS c, List.mem_map.2 ⟨c, h, rfl⟩, by rw [sameKey_litS, decide_eq_true rfl]⟩
theorem setR_snoc (l : List Str) (c : Str) : setR (l ++ [c]) = (setR l).put (litS c) (.agg []) := by
  unfold setR
  rw [List.map_append, List.map_singleton, Maps.setOf_snoc]
theorem below_grown {B : Nat} {w w' : World} (h : Below B w w') (hB : w.heap.size ≤ B) : w.grownBy w' none := ⟨h.os, h.tape, h.output, h.size, fun k hk _ => h.block k (Nat.lt_of_lt_of_le hk hB)⟩
theorem law9 : Keyed Tryz.prog 9 := string_keyed Tryz.underlying9
def addM (l : List Str) (c : Str) : List Str × Int := if c ∈ l then (l, 11) else if l.length = 16 then (l, 2) else (l ++ [c], 0)
theorem grown_none {w w' : World} {B : Nat} (h : w.grownBy w' none) : w.grownBy w' (some B) := ⟨h.os, h.tape, h.output, h.size, fun k hk _ => h.block k hk (by simp)⟩

end Go.Proofs.YtigdcgklpapfbaaGreatDoor

set_option linter.unusedVariables false
namespace Go.Proofs.YtigdcgklpapfbaaGreatDoor
open Go Go.Proofs Go.RowKit Go.Lib

abbrev FieldD := Str × Int × Bool
abbrev RecD := Int × List FieldD
abbrev ProbD := Int × Int × Int
def fieldVs (f : FieldD) : List Value := [.string (ba f.1), .int .i64 f.2.1, .bool f.2.2]
/-- The slice at A holds the fields l, in a block with P. -/
def FieldsIn (w : World) (P : Nat → Prop) (A : Option Addr) (l : List FieldD) : Prop :=
  l = [] ∨ ∃ b off, A = some ⟨b, off, none⟩ ∧ P b ∧ ∀ (j : Nat) (t : FieldD), l[j]? = some t → ∀ (i : Nat) (v : Value), (fieldVs t)[i]? = some v → w.cell? ⟨b, off + j * 3 + i, none⟩ = some v
theorem FieldsIn.kept {w w' : World} {P : Nat → Prop} {A : Option Addr} {l : List FieldD} (h : FieldsIn w P A l) (hk : ∀ b, P b → w'.heap[b]? = w.heap[b]?) : FieldsIn w' P A l := by
  rcases h with h | ⟨b, off, hA, hP, hc⟩
  · exact .inl h
  · exact .inr ⟨b, off, hA, hP, fun j t hj i v hv => (World.cell?_of_block (w := w) (hk b hP)).trans (hc j t hj i v hv)⟩
theorem FieldsIn.mono {w : World} {P P' : Nat → Prop} {A : Option Addr} {l : List FieldD} (h : FieldsIn w P A l) (hP : ∀ b, P b → P' b) : FieldsIn w P' A l := by
  rcases h with h | ⟨b, off, hA, hb, hc⟩
  · exact .inl h
  · exact .inr ⟨b, off, hA, hP b hb, hc⟩
theorem FieldsIn.below {w w' : World} {B : Nat} {A : Option Addr} {l : List FieldD} (h : FieldsIn w (fun b => b < B) A l) (hb : Below B w w') : FieldsIn w' (fun b => b < B) A l := h.kept fun b hB => hb.block b hB
theorem FieldsIn.at_ {w : World} {P : Nat → Prop} {A : Option Addr} {l : List FieldD} (h : FieldsIn w P A l) {k : Nat} (hk : k < l.length) :
    ∃ b off, A = some ⟨b, off, none⟩ ∧ P b ∧ w.cell? ⟨b, off + k * 3, none⟩ = some (.string (ba l[k].1)) ∧ w.cell? ⟨b, off + k * 3 + 1, none⟩ = some (.int .i64 l[k].2.1) ∧ w.cell? ⟨b, off + k * 3 + 2, none⟩ = some (.bool l[k].2.2) := by
  rcases h with h | ⟨b, off, hA, hP, hc⟩
  · subst h; simp at hk
  · have hg := List.getElem?_eq_getElem hk
    exact ⟨b, off, hA, hP, hc k _ hg 0 _ rfl, hc k _ hg 1 _ rfl, hc k _ hg 2 _ rfl⟩
/-- The slice at A holds the records l, in blocks with P. -/
def RecsIn (w : World) (P : Nat → Prop) (A : Option Addr) (l : List RecD) : Prop :=
  l = [] ∨ ∃ b off, A = some ⟨b, off, none⟩ ∧ P b ∧ ∀ (j : Nat) (r : RecD), l[j]? = some r → ∃ A' c', FieldsIn w P A' r.2 ∧ r.2.length ≤ c' ∧ c' ≤ 9223372036854775807 ∧ w.cell? ⟨b, off + j * 2, none⟩ = some (.int .i64 r.1) ∧ w.cell? ⟨b, off + j * 2 + 1, none⟩ = some (.slice A' r.2.length c')
theorem RecsIn.kept {w w' : World} {P : Nat → Prop} {A : Option Addr} {l : List RecD} (h : RecsIn w P A l) (hk : ∀ b, P b → w'.heap[b]? = w.heap[b]?) : RecsIn w' P A l := by
  rcases h with h | ⟨b, off, hA, hP, hc⟩
  · exact .inl h
  · refine .inr ⟨b, off, hA, hP, fun j r hj => ?_⟩
    obtain ⟨A', c', h1, h2, h3, h4, h5⟩ := hc j r hj
    exact ⟨A', c', h1.kept hk, h2, h3, (World.cell?_of_block (w := w) (hk b hP)).trans h4, (World.cell?_of_block (w := w) (hk b hP)).trans h5⟩
theorem RecsIn.mono {w : World} {P P' : Nat → Prop} {A : Option Addr} {l : List RecD} (h : RecsIn w P A l) (hP : ∀ b, P b → P' b) : RecsIn w P' A l := by
  rcases h with h | ⟨b, off, hA, hb, hc⟩
  · exact .inl h
  · refine .inr ⟨b, off, hA, hP b hb, fun j r hj => ?_⟩
    obtain ⟨A', c', h1, h2, h3, h4, h5⟩ := hc j r hj
    exact ⟨A', c', h1.mono hP, h2, h3, h4, h5⟩
theorem RecsIn.below {w w' : World} {B : Nat} {A : Option Addr} {l : List RecD} (h : RecsIn w (fun b => b < B) A l) (hb : Below B w w') : RecsIn w' (fun b => b < B) A l := h.kept fun b hB => hb.block b hB
theorem RecsIn.at_ {w : World} {P : Nat → Prop} {A : Option Addr} {l : List RecD} (h : RecsIn w P A l) {k : Nat} (hk : k < l.length) :
    ∃ b off A' c', A = some ⟨b, off, none⟩ ∧ P b ∧ FieldsIn w P A' l[k].2 ∧ l[k].2.length ≤ c' ∧ c' ≤ 9223372036854775807 ∧ w.cell? ⟨b, off + k * 2, none⟩ = some (.int .i64 l[k].1) ∧ w.cell? ⟨b, off + k * 2 + 1, none⟩ = some (.slice A' l[k].2.length c') := by
  rcases h with h | ⟨b, off, hA, hP, hc⟩
  · subst h; simp at hk
  · obtain ⟨A', c', h1, h2, h3, h4, h5⟩ := hc k _ (List.getElem?_eq_getElem hk)
    exact ⟨b, off, A', c', hA, hP, h1, h2, h3, h4, h5⟩

/-! ### rows that the call owns: times, rooms, problems -/
theorem infoTime : (Tryz.prog.info? 66).map (fun i => (i.zero, i.size, i.bytes)) = some (some (.agg #[.int .i64 0, .int .i64 0, .int .i64 0, .int .i64 0]), 4, 32) := by kernel_rfl
theorem infoProb : (Tryz.prog.info? 89).map (fun i => (i.zero, i.size, i.bytes)) = some (some (.agg #[.int .i64 0, .int .i64 0, .int .i64 0, .int .i64 0]), 4, 32) := by kernel_rfl
def timeVals (l : List TimeD) : List Value := l.flatMap timeVs
theorem timeVals_app (a b : List TimeD) : timeVals (a ++ b) = timeVals a ++ timeVals b := by simp [timeVals]
theorem timeVals_get : ∀ (l : List TimeD) (j : Nat) (t : TimeD), l[j]? = some t → ∀ (i : Nat) (v : Value), (timeVs t)[i]? = some v → (timeVals l)[j * 4 + i]? = some v
  | [], j, t, h, _, _, _ => by simp at h
  | a :: r, 0, t, h, i, v, hv => by
    simp at h
    subst h
    have hi : i < 4 := (List.getElem?_eq_some_iff.1 hv).1
    unfold timeVals
    rw [List.flatMap_cons, List.getElem?_append_left (by show _ < 4; omega)]
    simpa using hv
  | a :: r, j + 1, t, h, i, v, hv => by
    have := timeVals_get r j t (by simpa using h) i v hv
    unfold timeVals at this ⊢
    rw [List.flatMap_cons, List.getElem?_append_right (by show 4 ≤ _; omega)]
    show (List.flatMap timeVs r)[(j + 1) * 4 + i - 4]? = _
    rw [show (j + 1) * 4 + i - 4 = j * 4 + i by omega]
    exact this
theorem timeVals_one : ∀ (l : List TimeD), ∀ u ∈ timeVals l, u.oneCell' = true := by
  intro l u hu
  obtain ⟨t, _, h⟩ := List.mem_flatMap.1 hu
  simp [timeVs] at h
  rcases h with rfl | rfl | rfl | rfl <;> rfl
/-- A row of times that the call owns. -/
def TimeRow (w : World) (B : Nat) (v : Value) (l : List TimeD) : Prop := w.ownsRow B 66 4 v l.length (timeVals l)
def probVs (p : ProbD) : List Value := [.int .i64 0, .int .i64 p.1, .int .i64 p.2.1, .int .i64 p.2.2]
def probVals (l : List ProbD) : List Value := l.flatMap probVs
theorem probVals_app (a b : List ProbD) : probVals (a ++ b) = probVals a ++ probVals b := by simp [probVals]
def ProbsRow (w : World) (B : Nat) (v : Value) (l : List ProbD) : Prop := w.ownsRow B 89 4 v l.length (probVals l)
end Go.Proofs.YtigdcgklpapfbaaGreatDoor

