/-
  The program's Wanted, given what the stable sort does. Conditions: the requests lie in memory. Natural order: the reference's element, bare, order. Conditions: .. Conditions: as stated.
-/
import Derived.Test.YtlgmanbilaminaaGreatDoorXN01
import Derived.Test.YtlgmanbilaminaaGreatDoorXN02
import Derived.Test.YtlgmanbilaminaaGreatDoorXN03
import Derived.Test.YtlgmanbilaminaaGreatDoorXN04
import Derived.Test.YtlgmanbilaminaaGreatDoorXN05
import Derived.Test.YtlgmanbilaminaaGreatDoorXN06
import Derived.Test.YtlgmanbilaminaaGreatDoorXN07
import Derived.Test.YtlgmanbilaminaaGreatDoorXN08
import Derived.Test.YtlgmanbilaminaaGreatDoorXN17
import Derived.Test.YtlgmanbilaminaaGreatDoorXN18
import Derived.Test.YtlgmanbilaminaaGreatDoorXN19
import Derived.Test.YtlgmanbilaminaaGreatDoorProg
import Derived.WalkKit
import Derived.WalkSpells
import Derived.WalkLawsBesides
import Derived.Lib.Hide
import Derived.Deep.QuietTactic
import Derived.BigQuiet
import Derived.Laws.Rows
import Derived.OwnWalk
import Derived.Lib.BufferWrite
import Derived.Lib.UnsafeStr
import Derived.Laws.IdiomStrings
import Derived.Laws.BytesArg
import Derived.Laws.BytesString
import Derived.Laws.OwnMore
import Derived.Lib.IndexLaws
import Derived.Lib.ItoaNum
import Derived.Lib.Atoi
import Derived.Lib.Bytealg
import Derived.Sort.WalkA
import Derived.Sort.LotA
import Derived.Shelf.SlSortCmp.Insertion
import Derived.Shelf.SlGeneric
import Derived.Shelf.SlSortCmp.NoneTotal
import Derived.Ground.SlsfProg
import Derived.Shelf.Strings.Builder1
import Derived.Shelf.Strings.Builder2
import Derived.Shelf.Strings.OnBuilder
import Derived.Shelf.Strings.Trim
import Derived.Shelf.Small.Utf8
import Derived.Shelf.Small.Bits
import Derived.Shelf.Small.Strs
import Derived.Shelf.Small.Wraps
import Derived.Shelf.Strings.BuilderF
import Derived.Shelf.Strings.BuilderK
import Derived.Shelf.Strings.Builder2Cap
import Derived.Shelf.Strconv.Atoi
import Derived.Shelf.Strconv.Itoa0
import Derived.Shelf.Strconv.Itoa1
import Derived.Shelf.LaysM
import Derived.Shelf.Strconv.Itoa2
import Derived.Shelf.Strconv.Itoa3
import Derived.Shelf.Strconv.AtoiErrFast
import Derived.Shelf.Strconv.ParseIntEmpty
import Derived.Shelf.Strconv.AtoiFail
import Derived.Shelf.Strconv.Clone
import Derived.Shelf.Strconv.SyntaxError
import Derived.Shelf.LaysC
import Derived.Shelf.Strconv.ToError
import Derived.Shelf.Strconv.AtoiErr
import Derived.Shelf.Strings.Search1
import Derived.Shelf.Strings.Search2
import Derived.Shelf.Strings.Search3
import Derived.Shelf.Strings.Cut
import Derived.Shelf.Strings.Shaped
import Derived.Shelf.Strings.Prefix
import Derived.Shelf.Strings.Runes
import Derived.Shelf.Strings.AsciiSet
import Derived.Shelf.Bits.Mul64
import Derived.Shelf.Strings.Repeat
import Derived.Shelf.Unicode.DecodeSlow
import Derived.Shelf.Strings.BuilderCap
import Derived.Shelf.Slices.Turned
import Derived.Ground.Names2Prog
import Derived.Shelf.Slices.Clone
import Derived.Shelf.SlSortCmp.SiftDown1
import Derived.Shelf.SlSortCmp.HeapSort1
import Derived.Shelf.SlSortCmp.Insertion1
import Derived.Shelf.SlSortCmp.Median1
import Derived.Shelf.SlSortCmp.Pivot1
import Derived.Shelf.SlSortCmp.ReverseRange1
import Derived.Shelf.SlSortCmp.PartialInsertion1
import Derived.Shelf.SlSortCmp.PartitionEqual1
import Derived.Shelf.SlSortCmp.Partition1
import Derived.Shelf.SlSortCmp.Pdq1
import Derived.Shelf.SlSortCmp.Whole1
import Derived.RangeFuncNested
import Derived.RangeFuncBound
import Derived.RangeFuncCalls
import Derived.RangeFuncLeaves
import Derived.Shelf.Abstract
import Derived.Shelf.RegionOpen
import Derived.OwnWalkIn
import Derived.Lib.SlTrimSet
import Derived.Shelf.Strings.SlTrimAscii
import Derived.Lib.AtoiErrMem
import Derived.Handy
import Derived.Laws.ResultCell
import Derived.RegionTactic
import Derived.Lib.Repeat
import Derived.Deep.RegionHeld3
import Derived.Lib.SlicesS
import Derived.TacticsInMore
import Derived.LoopNIn
import Derived.LoopIn
import Derived.Laws.BitsAllLaws
import Derived.Laws.BitsLemmas
import Derived.Deep.MidRow
import Derived.Deep.DeepCutAuto
import Derived.Lib.Join
import Derived.Laws.Concat
import Derived.Maps.OwnSet
import Derived.Maps.Range
import Derived.Deep.RegionLaw
import Derived.Maps.AppendAt
set_option linter.unusedVariables false
namespace Go.Proofs.YtlgmanbilaminaaGreatDoor.S12
open Go Go.Proofs Go.RowKit Go.Lib Go.Sort Go.Proofs.YtlgmanbilaminaaGreatDoor
theorem Box4.put3' {w : World} {B : Nat} {v0 v1 v2 v3 : Value} (h : Box4 w B v0 v1 v2 v3) (u : Value) : Box4 (w.setCell ⟨B, 3, none⟩ u) B v0 v1 v2 u := ⟨by rw [heap_setCell_same w B 3 _ _ u h.h]; rfl⟩
def wantF (l : List ReqD) (s : Str) : List ReqD := l.filter (fun r => decide (r.s = s))
def wantM (l : List ReqD) (s : Str) : List ReqD := sortP (fun r : ReqD => r.p) (wantF l s)
theorem wantF_take (l : List ReqD) (s : Str) (i : Nat) (h : i < l.length) : wantF (l.take (i + 1)) s = if l[i].s = s then wantF (l.take i) s ++ [l[i]] else wantF (l.take i) s := by
  unfold wantF
  rw [List.take_succ_eq_append_getElem h, List.filter_append]
  by_cases hs : l[i].s = s
  · rw [if_pos hs, List.filter_cons_of_pos (by simpa using hs)]; rfl
  · rw [if_neg hs, List.filter_cons_of_neg (by simpa using hs)]; simp
theorem clone_any (A : Option Addr) (l : List Str) (c : Nat) (P : Nat → Prop) (w : World) (h : S3.StrsIn w P A l) (hn : l.length ≤ 8796093022208) :
    Calls Tryz.prog 49 #[.slice A l.length c] w fun e w' => (∃ v, e = .returned v ∧ S3.StrRow w' w.heap.size v l) ∧ Below w.heap.size w w' := by
  cases A with
  | none =>
    have hl : l = [] := by
      rcases h with h | ⟨b, off, e, _⟩
      · exact h
      · cases e
    subst hl
    refine (Tryz.slices_Clone_string_nil 0 c w).mono ?_
    rintro e w' ⟨rfl, rfl⟩
    exact ⟨⟨_, rfl, World.ownsRow_nil _ _ _ _⟩, Below.refl _ _⟩
  | some a =>
    rcases h with h | ⟨b, off, e, hb, hc⟩
    · subst h
      refine (Tryz.slices_Clone_string_zero a c w).mono ?_
      rintro e w' ⟨v, rfl, hown, _, hbl⟩
      exact ⟨⟨v, rfl, hown⟩, hbl⟩
    · injection e with e
      subst e
      have hz : (l.map ba).length = l.length := by simp
      refine (Tryz.slices_Clone_string b off l.length c (l.map ba) w (by rw [hz]; exact Nat.le_refl _) (by omega) (fun j hj => ?_)).mono ?_
      · rw [hz] at hj
        have h1 := hc j _ (List.getElem?_eq_getElem hj)
        rw [h1]
        simp [S3.strV, List.getD, hj, ba]
      · rintro e w' ⟨v, rfl, hown, _, hbl⟩
        refine ⟨⟨v, rfl, ?_⟩, hbl⟩
        rw [List.take_of_length_le (by rw [hz]; exact Nat.le_refl _), List.map_map] at hown
        exact hown
structure WInv (w : World) (v : Value) (Lr : List ReqP) (W : World) : Prop where
  row : W.ownsRow w.heap.size 61 4 v Lr.length (reqVals Lr)
  ins : ∀ p ∈ Lr, ReqIn W (fun k => w.heap.size ≤ k ∧ k < W.heap.size ∧ some k ≠ v.ownBlock) p.1 p.2
  b : Below w.heap.size w W
theorem WInv.start (w : World) : WInv w (.slice none 0 0) [] w := ⟨World.ownsRow_nil _ _ _ _, fun p hp => by simp at hp, Below.refl _ _⟩
theorem WInv.next {w W W' : World} {v : Value} {Lr : List ReqP} (h : WInv w v Lr W) (hb : Below W.heap.size W W') : WInv w v Lr W' :=
  ⟨row_under h.row hb, fun p hp => ((h.ins p hp).kept (fun k hk => hb.block k hk.2.1)).mono (fun k hk => ⟨hk.1, Nat.lt_of_lt_of_le hk.2.1 hb.size, hk.2.2⟩), h.b.trans (hb.mono h.b.size)⟩
theorem WInv.past {w W W' : World} {v : Value} {Lr : List ReqP} {R : Nat} (h : WInv w v Lr W) (hg : W.grownBy W' (some R)) (hR : W.heap.size ≤ R) : WInv w v Lr W' := by
  have hs := hg.size
  have hw := h.b.size
  refine ⟨World.ownsRow.kept h.row hg ?_, fun p hp => ((h.ins p hp).kept (fun k hk => hg.block k hk.2.1 (fun e => by injection e; omega))).mono (fun k hk => ⟨hk.1, by omega, hk.2.2⟩), h.b.grown hg h.b.size (fun k e => by injection e; omega)⟩
  rcases hv : v.ownBlock with _ | g
  · exact .inl rfl
  · exact .inr (fun e => by have := (own_lt h.row g hv).2; injection e with e; omega)
theorem WInv.snoc {w wr W3 W5 : World} {v v' : Value} {Lr : List ReqP} {r : ReqD} {q : ReqA} {o : Obj} (h : WInv w v Lr W3) (hlt : ∀ k, v.ownBlock = some k → k < wr.heap.size) (hwr : w.heap.size ≤ wr.heap.size) (hr : ReqIn W3 (fun k => wr.heap.size < k ∧ k < W3.heap.size) r q)
    (hown : W5.ownsRow w.heap.size 61 4 v' (Lr.length + 1) (reqVals Lr ++ reqVs r q)) (hgrow : (W3.alloc o).grownBy W5 v.ownBlock) (hat : v'.ownBlock = v.ownBlock ∨ v'.ownBlock = some (W3.alloc o).heap.size) : WInv w v' (Lr ++ [(r, q)]) W5 := by
  have hg := grownBy_of_alloc hgrow
  have hs := hg.size
  have hsa : (W3.alloc o).heap.size = W3.heap.size + 1 := by simp
  have hne : ∀ k, k < W3.heap.size → some k ≠ v.ownBlock → some k ≠ v'.ownBlock := by
    intro k hk hn
    rcases hat with e | e
    · rw [e]; exact hn
    · rw [e]; intro e0; injection e0 with e0; omega
  refine ⟨?_, fun p hp => ?_, h.b.grown hg h.b.size (fun k e => (own_lt h.row k e).1)⟩
  · rw [reqVals_app, List.length_append, List.length_singleton]
    simpa [reqVals] using hown
  · rcases List.mem_append.1 hp with hp | hp
    · exact ((h.ins p hp).kept (fun k hk => hg.block k hk.2.1 hk.2.2)).mono (fun k hk => ⟨hk.1, by omega, hne k hk.2.1 hk.2.2⟩)
    · rw [List.mem_singleton] at hp
      subst hp
      have k1 : ∀ k, wr.heap.size < k → some k ≠ v.ownBlock := fun k hk e => by have := hlt k e.symm; omega
      exact (hr.kept (fun k hk => hg.block k hk.2 (k1 k hk.1))).mono (fun k hk => ⟨by omega, by omega, hne k hk.2 (k1 k hk.1)⟩)
def WantOut (o : List ReqD) (w : World) (e : Ending) (w' : World) : Prop := (∃ v, e = .returned v ∧ ReqRow w' w.heap.size (fun k => w.heap.size ≤ k ∧ k < w'.heap.size) v o) ∧ Below w.heap.size w w'
set_option maxHeartbeats 16000000 in
set_option maxRecDepth 100000 in
theorem wanted_any (A : Option Addr) (l : List ReqD) (c : Nat) (x : ByteArray) (w : World) (h : ReqsIn w (fun k => k < w.heap.size) A l) (hl : l.length ≤ 1099511627776) (hi : ∀ r ∈ l, r.l.length ≤ 8796093022208) (hS : StableSaid (wantF l (lst x)).length) :
    Calls Tryz.prog 20 #[.slice A l.length c, .string x] w (WantOut (wantM l (lst x)) w) := by
  obtain ⟨i5, hi5, hz5, hs5, hb5⟩ := info_parts infoReq
  unfold WantOut
  have HH := hid (fun (w' : World) (hb : Below w.heap.size w w') => h.below hb)
  have HI := hid hi
  have HL := hid hl
  have HS := hid hS
  have HW0 := hid (WInv.start w)
  clear h hi hS hl
  go_enter Tryz.func20, Tryz.ntmps20
  go_wp2
  go_loopw [5, 10] (fun v iv wr => ∃ (i : Nat) (Lr : List ReqP) (Av : Option Addr) (nv cv : Nat), v = .slice Av nv cv ∧ iv = .int .i64 (i : Int) ∧ i ≤ l.length ∧ Hid (Lr.map (·.1) = wantF (l.take i) (lst x)) ∧ Hid (Lr.length = nv) ∧ Hid (WInv w (.slice Av nv cv) Lr wr)) (fun _ iv _ => l.length - (RowKit.intOf iv).toNat)
  case atStart => exact ⟨0, [], none, 0, 0, rfl, rfl, Nat.zero_le _, hid rfl, hid rfl, HW0⟩
  case round =>
    obtain ⟨i, Lr, Av, nv, cv, rfl, rfl, hi, hM, hN, hW⟩ := hrel
    by_cases hlt : i < l.length
    · have hltz : (i : Int) < (l.length : Int) := by omega
      have hib : i + 1 ≤ 1099511627776 := by have := HL.out; omega
      obtain ⟨fb, fo, q, rfl, hfb, hri, y0, y1, y2, y3⟩ := (HH.out _ hW.out.b).at_ hlt
      have hst := wantF_take l (lst x) i hlt
      have hil := HI.out _ (List.getElem_mem hlt)
      have hb1 := (Below.refl wr.heap.size wr).alloc (Nat.le_refl _) (.cells #[.string (ba l[i].s), .string (ba l[i].c), .int .i64 l[i].p, .slice q.1 l[i].l.length q.2] 61)
      have hX := Box4.new wr (.string (ba l[i].s)) (.string (ba l[i].c)) (.int .i64 l[i].p) (.slice q.1 l[i].l.length q.2)
      have cC := fun W (hb : Below wr.heap.size wr W) => clone_any q.1 l[i].l q.2 _ W ((hri.below (hb.mono hW.out.b.size)).t) hil
      have hin := hri
      obtain ⟨⟨s, co, p, ins⟩, hr⟩ : ∃ r, l[i] = r := ⟨_, rfl⟩
      rw [hr] at y0 y1 y2 y3 hst hb1 hX cC hin
      dsimp only at y0 y1 y2 y3 hst hb1 hX cC hil
      obtain ⟨S, hSs⟩ : ∃ S, ba s = S := ⟨_, rfl⟩
      obtain ⟨C, hCo⟩ : ∃ S, ba co = S := ⟨_, rfl⟩
      obtain ⟨n, hn⟩ : ∃ n, ins.length = n := ⟨_, rfl⟩
      rw [hSs] at y0 hb1 hX
      rw [hCo] at y1 hb1 hX
      rw [hn] at y3 hb1 hX cC
      have hSl : S.toList = s := by rw [Lib.toList_data, ← hSs]; rfl
      have hXl : x.toList = lst x := Lib.toList_data x
      have HSs := hid hSs
      have HCo := hid hCo
      have HNN := hid hn
      have HB1 := hid hb1
      have HX := hid hX
      have CC := hid cC
      by_cases hs : s = lst x
      · rw [if_pos hs] at hst
        have hbe : (S.toList == x.toList) = true := by rw [hSl, hXl, hs]; simp
        have HST := hid hst
        have hown := fun k e => (own_lt hW.out.row k e).2
        have HOL := hid hown
        clear hst hs hr hri hin hSs hCo hn hb1 hX cC hSl hXl hil hfb hown
        go_wp2_with fail
        generalize wr.alloc (.cells #[.string S, .string C, .int .i64 p, .slice q.1 n q.2] 61) = w1 at HB1 HX ⊢
        refine (CC.out w1 HB1.out).mono ?_
        rintro e w2 ⟨⟨v2, rfl, hrow⟩, hb2⟩
        obtain ⟨A2, c2, rfl, g1, g2, g3⟩ := hrow.strsIn
        have HX2 := hid (HX.out.next hb2)
        have hb12 : Below wr.heap.size wr w2 := HB1.out.trans (hb2.mono HB1.out.size)
        have HB12 := hid hb12
        have hlx := HX.out.lt
        have hg3 : S3.StrsIn w2 (fun k => wr.heap.size < k ∧ k < w2.heap.size) A2 ins := g3.mono (fun k hk => ⟨by omega, hk.2⟩)
        have HG3 := hid hg3
        have HG1 := hid (And.intro g1 g2)
        have hnn := HNN.out
        rw [hnn]
        clear hb2 hrow g1 g2 g3 hg3 hb12 hnn
        obtain ⟨x0, x1, x2, x3⟩ := HX2.out.cells
        have hf := HX2.out.free 3
        have hg := hid (put_grown HB12.out wr.heap.size 3 (.slice A2 n c2))
        have HB5 := hid (Box4.put3' HX2.out (.slice A2 n c2))
        have hW3 := hid (hW.out.past hg.out (Nat.le_refl _))
        have hRI : ReqIn (w2.setCell ⟨wr.heap.size, 3, none⟩ (.slice A2 n c2)) (fun k => wr.heap.size < k ∧ k < (w2.setCell ⟨wr.heap.size, 3, none⟩ (.slice A2 n c2)).heap.size) ⟨s, co, p, ins⟩ (A2, c2) :=
          ⟨(HG3.out.kept (fun b hb => Below.heap_setCell w2 ⟨wr.heap.size, 3, none⟩ _ b (fun e => by have : b = wr.heap.size := e; omega))).mono (fun b hb => ⟨hb.1, by simpa [World.setCell] using hb.2⟩), HG1.out.1, HG1.out.2⟩
        have HRI := hid hRI
        have hn5 := four_newR (w2.setCell ⟨wr.heap.size, 3, none⟩ (.slice A2 n c2)) ⟨s, co, p, ins⟩ (A2, c2)
        unfold reqVs at hn5
        dsimp only at hn5
        rw [HSs.out, HCo.out, HNN.out, show (w2.setCell ⟨wr.heap.size, 3, none⟩ (.slice A2 n c2)).heap.size = w2.heap.size by simp] at hn5
        have HN5 := hid hn5
        have hvs : reqVs ⟨s, co, p, ins⟩ (A2, c2) = [.string S, .string C, .int .i64 p, .slice A2 n c2] := by unfold reqVs; dsimp only; rw [HSs.out, HCo.out, HNN.out]
        have HON : Hid (∀ u ∈ [Value.string S, .string C, .int .i64 p, .slice A2 n c2], u.oneCell' = true) := hid (by rw [← hvs]; exact req_one _ _)
        have HVS := hid hvs
        have hnl : Lr.length ≤ l.length := by
          have := congrArg List.length hM.out
          rw [List.length_map] at this
          rw [this]
          exact Nat.le_trans (List.length_filter_le _ _) (by simp; omega)
        have HMX : Hid (nv + 1 ≤ maxLen) := hid (by have := hN.out; have := HL.out; unfold maxLen; omega)
        have HBY : Hid ((nv + 1) * 64 ≤ 140737488355328) := hid (by have := hN.out; have := HL.out; omega)
        have hrow3 := hW3.out.row
        rw [hN.out] at hrow3
        have HR3 := hid (World.ownsRow.alloc hrow3 (.cells #[.string S, .string C, .int .i64 p, .slice A2 n c2] 61))
        have HWS : Hid (w.heap.size ≤ ((w2.setCell ⟨wr.heap.size, 3, none⟩ (.slice A2 n c2)).alloc (.cells #[.string S, .string C, .int .i64 p, .slice A2 n c2] 61)).heap.size) := hid (by have := hW3.out.b.size; simp at this ⊢; omega)
        clear hRI hn5 hvs hnl hrow3
        go_wp2_with (at_builtin; refine wpList_append_own_at _ rfl _ _ 22 rfl w.heap.size 61 i5 (.agg #[.string ⟨#[]⟩, .string ⟨#[]⟩, .int .i64 0, .slice none 0 0]) 4 64 Tryz.underlying22 hi5 hz5 hs5 hb5 rfl (by decide) _ nv (reqVals Lr) rfl HR3.out ⟨w2.heap.size, 0, none⟩ 1 1 [.string S, .string C, .int .i64 p, .slice A2 n c2] rfl rfl HN5.out HON.out HMX.out HBY.out HWS.out ?_)
        intro v' w5 hown' hgrow _ hat
        obtain ⟨g', cap', rfl⟩ := ownsRow_succ (k := nv) hown'
        rw [← HVS.out, ← hN.out] at hown'
        have hW5 := WInv.snoc (v' := .slice (some ⟨g', 0, none⟩) (nv + 1) cap') hW3.out HOL.out hW.out.b.size HRI.out (by rw [hN.out] at hown' ⊢; exact hown') hgrow (hat.imp id (fun h => h.trans (by simp)))
        have HW5 := hid hW5
        clear hW5 hown' hgrow hat
        go_wp2_with fail
        go_roundw
        case rel => exact ⟨i + 1, Lr ++ [(⟨s, co, p, ins⟩, (A2, c2))], _, _, _, rfl, by go_num, by omega, hid (by rw [HST.out, List.map_append, hM.out]; rfl), hid (by rw [List.length_append, List.length_singleton, hN.out]), HW5⟩
        case measure => simp [RowKit.intOf]; omega
      · rw [if_neg hs] at hst
        have hbe : (S.toList == x.toList) = false := by rw [hSl, hXl]; simpa using hs
        have HST := hid hst
        have HW1 := hid (hW.out.next HB1.out)
        clear hst hs hr hri hin hSs hCo hn hb1 hX cC hSl hXl hil hfb
        go_wp2
        go_roundw
        case rel => exact ⟨i + 1, Lr, Av, nv, cv, rfl, by go_num, by omega, hid (by rw [HST.out]; exact hM.out), hid hN.out, hid HW1.out⟩
        case measure => simp [RowKit.intOf]; omega
    · have hltz : ¬ (i : Int) < (l.length : Int) := by omega
      rw [List.take_of_length_le (by omega)] at hM
      obtain rfl := hN.out
      have hSS : StableSaid Lr.length := by
        have := HS.out
        rw [← hM.out, List.length_map] at this
        exact this
      have cS := hid (sortStable_any (.slice Av Lr.length cv) Lr w.heap.size wr hSS hW.out.row hW.out.b.size)
      clear hSS
      go_wp2_with fail
      refine cS.out.mono ?_
      rintro e w2 ⟨rfl, ⟨L', hst, hll, hrow⟩, hg⟩
      have HST := hid hst
      have HLL := hid hll
      have HROW := hid hrow
      have HG := hid hg
      clear hst hll hrow hg cS
      go_wp2
      go_ret
      have hb : Below w.heap.size w w2 := hW.out.b.grown HG.out hW.out.b.size (fun k e => (own_lt hW.out.row k e).1)
      have hmap : L'.map (·.1) = wantM l (lst x) := by
        have h1 : Stab (fun r : ReqD => r.p) (Lr.map (·.1)) (L'.map (·.1)) := stab_map (key := fun r : ReqD => r.p) (fun p : ReqP => p.1) HST.out
        rw [hM.out] at h1
        exact sortP_unique h1
      have hlen : (wantM l (lst x)).length = Lr.length := by rw [← hmap, List.length_map, HLL.out]
      refine ⟨⟨_, rfl, L', hmap, by rw [hlen]; exact HROW.out, fun p hp => ?_⟩, hb⟩
      have hpm : p ∈ Lr := by
        have h1 : p ∈ L'.filter (fun x => decide (keyP x = keyP p)) := List.mem_filter.2 ⟨hp, by simp⟩
        rw [HST.out.1 (keyP p)] at h1
        exact (List.mem_filter.1 h1).1
      exact ((hW.out.ins p hpm).kept (fun k hk => HG.out.block k hk.2.1 hk.2.2)).mono (fun k hk => ⟨hk.1, Nat.lt_of_lt_of_le hk.2.1 HG.out.size⟩)
end Go.Proofs.YtlgmanbilaminaaGreatDoor.S12
set_option linter.unusedVariables false
namespace Go.Proofs.YtlgmanbilaminaaGreatDoor.S3
open Go Go.Proofs Go.RowKit Go.Lib Go.Proofs.YtlgmanbilaminaaGreatDoor
theorem ex_drew {w w' : World} (h : ∃ q, w' = w.drewN q) (n : Nat) : ∃ q, w'.drewN n = w.drewN q := by
  obtain ⟨q, rfl⟩ := h
  exact ⟨q + n, by rw [World.drewN_drewN]⟩
def ElemOut (s : ByteArray) (w : World) (e : Ending) (w' : World) : Prop :=
  (∃ X Y : ByteArray, e = .returned (.tuple #[.string X, .string Y]) ∧ lst X = (lst s).take (elemN (lst s)) ∧ lst Y = (lst s).drop (elemN (lst s))) ∧ ∃ q, w' = w.drewN q
set_option maxHeartbeats 4000000 in
set_option maxRecDepth 100000 in
theorem element_any (s : ByteArray) (h0 : 0 < s.size) (hs : s.size ≤ 9223372036854775807) (w : World) : Calls Tryz.prog 55 #[.string s] w (ElemOut s w) := by
  have hl0 : 0 < (lst s).length := by rw [← Lib.size_eq]; exact h0
  have hst := fun k hk h => elemN_step (lst s) hl0 k hk h
  have hsp := fun k hk h => elemN_stop (lst s) hl0 k hk h
  rw [show (lst s)[0] = s[0]'h0 from rfl] at hst hsp
  obtain ⟨x0, hx0⟩ : ∃ x, s[0]'h0 = x := ⟨_, rfl⟩
  rw [show dg (s[0]'h0) = dg x0 by rw [hx0]] at hst hsp
  have c0 := digit_any x0
  obtain ⟨d, hd⟩ : ∃ d, dg x0 = d := ⟨_, rfl⟩
  rw [hd] at hst hsp c0
  have HST := hid hst
  have HSP := hid hsp
  have h1 := hid (elemN_pos (lst s) (lst_ne h0))
  clear hst hsp hd
  go_enter Tryz.func55, Tryz.ntmps55
  go_wp2
  go_loopw [4] (fun i wr => ∃ (k : Nat), 1 ≤ k ∧ k ≤ s.size ∧ i = .int .i64 (k : Int) ∧ Hid (k ≤ elemN (lst s)) ∧ Hid (∃ q, wr = w.drewN q)) (fun i _ => s.size - (RowKit.intOf i).toNat)
  case atStart => exact ⟨1, Nat.le_refl _, h0, rfl, h1, hid ⟨0, rfl⟩⟩
  case round =>
    obtain ⟨k, hk1, hk, rfl, hle, hD⟩ := hrel
    by_cases hlt : k < s.size
    · have hltz : (k : Int) < (s.size : Int) := by omega
      have hltd : decide ((k : Int) < (s.size : Int)) = true := decide_eq_true hltz
      have hltn : decide (k < s.size) = true := decide_eq_true hlt
      have hlt' : k < (lst s).length := by rw [← Lib.size_eq]; exact hlt
      have h1 := HST.out k hlt' hle.out
      have h2 := HSP.out k hlt' hle.out
      have e1 : (lst s)[k] = s[k]'hlt := rfl
      rw [e1] at h1 h2
      obtain ⟨x, hx⟩ : ∃ x, s[k]'hlt = x := ⟨_, rfl⟩
      rw [hx] at h1 h2
      have cX := digit_any x
      have H1 := hid h1
      have H2 := hid h2
      clear h1 h2 e1
      by_cases hdx : dg x = d
      · have hN : Hid (k + 1 ≤ elemN (lst s)) := hid (H1.out hdx)
        rw [hdx] at cX
        have hdd : (d == d) = true := by simp
        clear hdx H1 H2
        go_wp2
        go_quiet ((first | (go_at_call_of 56 x.toNat; with_reducible refine Calls.quiet_of_same ((cX _).mono fun _ _ h => ⟨h.1, h.2.symm⟩)) | (go_at_call_of 56 x0.toNat; with_reducible refine Calls.quiet_of_same ((c0 _).mono fun _ _ h => ⟨h.1, h.2.symm⟩))))
        go_wp2
        go_roundw
        case rel => exact ⟨k + 1, by omega, by omega, by go_num, hN, hid (ex_drew hD.out _)⟩
        case measure => simp [RowKit.intOf]; omega
      · have hN : Hid (elemN (lst s) = k) := hid (H2.out hdx)
        have hdd : (dg x == d) = false := by simpa using hdx
        clear hdx H1 H2
        have hkz : (0 : Int) ≤ (k : Int) := by omega
        have hkz2 : (k : Int) ≤ (s.size : Int) := by omega
        go_wp2
        go_quiet ((first | (go_at_call_of 56 x.toNat; with_reducible refine Calls.quiet_of_same ((cX _).mono fun _ _ h => ⟨h.1, h.2.symm⟩)) | (go_at_call_of 56 x0.toNat; with_reducible refine Calls.quiet_of_same ((c0 _).mono fun _ _ h => ⟨h.1, h.2.symm⟩))))
        go_wp2
        go_quiet (fail)
        go_wp2
        go_ret2
        unfold ElemOut
        refine ⟨⟨_, _, rfl, ?_, ?_⟩, ex_drew (ex_drew hD.out _) _⟩
        · rw [lst_extract, hN.out]; simp
        · rw [lst_extract, hN.out, List.take_of_length_le (by rw [← Lib.size_eq]; exact Nat.le_refl _)]
    · have hltz : ¬ (k : Int) < (s.size : Int) := by omega
      have hltd : decide ((k : Int) < (s.size : Int)) = false := decide_eq_false hltz
      have hltn : decide (k < s.size) = false := decide_eq_false hlt
      have hks : k = s.size := by omega
      have hN : Hid (elemN (lst s) = k) := hid (by
        have := elemN_le (lst s)
        have h2 := hle.out
        have e : s.size = (lst s).length := Lib.size_eq s
        omega)
      have hkz : (0 : Int) ≤ (k : Int) := by omega
      have hkz2 : (k : Int) ≤ (s.size : Int) := by omega
      clear hks
      go_wp2
      go_quiet (fail)
      go_wp2
      go_quiet (fail)
      go_wp2
      go_ret2
      unfold ElemOut
      refine ⟨⟨_, _, rfl, ?_, ?_⟩, ex_drew (ex_drew hD.out _) _⟩
      · rw [lst_extract, hN.out]; simp
      · rw [lst_extract, hN.out, List.take_of_length_le (by rw [← Lib.size_eq]; exact Nat.le_refl _)]
theorem bareS_step (S : ByteArray) (h : 0 < S.size) (e : S[0]'h = 48) : bareS (lst (S.extract 1 S.size)) = bareS (lst S) := by
  rw [lst_extract, List.take_of_length_le (by rw [← Lib.size_eq]; exact Nat.le_refl _)]
  have h' : 0 < (lst S).length := by rw [← Lib.size_eq]; exact h
  cases hl : lst S with
  | nil => rw [hl] at h'; simp at h'
  | cons c r =>
    have : c = 48 := by
      have e2 : (lst S)[0] = S[0]'h := rfl
      rw [e] at e2
      simpa [hl] using e2
    subst this
    simp [bareS]
theorem bareS_stop (S : ByteArray) (h : 0 < S.size) (e : S[0]'h ≠ 48) : bareS (lst S) = lst S := by
  have h' : 0 < (lst S).length := by rw [← Lib.size_eq]; exact h
  cases hl : lst S with
  | nil => rfl
  | cons c r =>
    have : c ≠ 48 := by
      have e2 : (lst S)[0] = S[0]'h := rfl
      rw [← e2] at e
      simpa [hl] using e
    simp [bareS, this]
set_option maxHeartbeats 4000000 in
set_option maxRecDepth 100000 in
theorem bare_any (s : ByteArray) (hs : s.size ≤ 9223372036854775807) (w : World) : Calls Tryz.prog 57 #[.string s] w fun e w' => (∃ A : ByteArray, e = .returned (.string A) ∧ lst A = bareS (lst s) ∧ A.size ≤ s.size) ∧ w = w' := by
  go_enter Tryz.func57, Tryz.ntmps57
  go_wp2
  go_loop [0] (fun v => ∃ S : ByteArray, v = .string S ∧ S.size ≤ s.size ∧ Hid (bareS (lst S) = bareS (lst s))) (fun v => strSize v)
  case atStart => exact ⟨s, rfl, Nat.le_refl _, hid rfl⟩
  case round =>
    obtain ⟨S, rfl, hSs, hE⟩ := hrel
    by_cases hlt : 0 < S.size
    · have hltz : (0 : Int) < (S.size : Int) := by omega
      have h1z : (1 : Int) ≤ (S.size : Int) := by omega
      have hs1 := bareS_step S hlt
      have hs2 := bareS_stop S hlt
      obtain ⟨x, hx⟩ : ∃ x, S[0]'hlt = x := ⟨_, rfl⟩
      rw [hx] at hs1 hs2
      by_cases h48 : x = 48
      · have hz : ((x.toNat : Int) == 48) = true := by rw [h48]; rfl
        have hn := hid (hs1 h48)
        clear h48 hs1 hs2
        go_wp2
        go_round
        case rel => exact ⟨_, rfl, by rw [ByteArray.size_extract]; omega, by rw [hn.out]; exact hE⟩
        case measure =>
          show (S.extract 1 S.size).size < S.size
          rw [ByteArray.size_extract]
          omega
      · have hz : ((x.toNat : Int) == 48) = false := by
          have : x.toNat ≠ 48 := fun e => h48 (UInt8.toNat_inj.1 e)
          simp
          omega
        have hn := hid (hs2 h48)
        clear h48 hs1 hs2
        go_wp2
        go_ret
        exact ⟨⟨S, rfl, by rw [← hE.out, hn.out], hSs⟩, rfl⟩
    · have hltz : ¬ (0 : Int) < (S.size : Int) := by omega
      have hn := hid (lst_nil hlt)
      go_wp2
      go_ret
      exact ⟨⟨S, rfl, by rw [← hE.out, hn.out]; rfl, hSs⟩, rfl⟩
theorem less_cases : ∀ (a b : Str), (Op.bytesLess a b = true ∧ compareBytes a b = -1) ∨ (Op.bytesLess a b = false ∧ (a == b) = false ∧ compareBytes a b = 1) ∨ (Op.bytesLess a b = false ∧ (a == b) = true ∧ compareBytes a b = 0)
  | [], [] => .inr (.inr ⟨rfl, rfl, rfl⟩)
  | [], _ :: _ => .inl ⟨rfl, rfl⟩
  | _ :: _, [] => .inr (.inl ⟨rfl, rfl, rfl⟩)
  | x :: a, y :: b => by
    have ih := less_cases a b
    unfold Op.bytesLess compareBytes
    by_cases h1 : x < y
    · exact .inl ⟨by simp [h1], by rw [if_pos h1]⟩
    · have hd : decide (x < y) = false := by simpa using h1
      rw [hd, if_neg h1]
      by_cases h2 : y < x
      · have hne : ¬ x = y := by
          rw [UInt8.lt_iff_toNat_lt] at h2
          intro e
          rw [e] at h2
          omega
        have hb : (x == y) = false := by simpa using hne
        rw [if_pos h2, hb]
        exact .inr (.inl ⟨rfl, by simp [hne], rfl⟩)
      · have he : x = y := by
          rw [UInt8.lt_iff_toNat_lt] at h1 h2
          exact UInt8.toNat_inj.1 (by omega)
        subst he
        rw [if_neg h2, show (x == x) = true by simp, show ((x :: a) == (x :: b)) = (a == b) by simp]
        simpa using ih
set_option maxHeartbeats 1000000 in
theorem order_any (a b : ByteArray) (w : World) : Calls Tryz.prog 58 #[.string a, .string b] w fun e w' => e = .returned (.int .i64 (compareBytes (lst a) (lst b))) ∧ w = w' := by
  have h := less_cases a.toList b.toList
  rw [Lib.toList_data, Lib.toList_data] at h
  change (Op.bytesLess (lst a) (lst b) = true ∧ compareBytes (lst a) (lst b) = -1) ∨ (Op.bytesLess (lst a) (lst b) = false ∧ ((lst a) == (lst b)) = false ∧ compareBytes (lst a) (lst b) = 1) ∨ (Op.bytesLess (lst a) (lst b) = false ∧ ((lst a) == (lst b)) = true ∧ compareBytes (lst a) (lst b) = 0) at h
  rcases h with ⟨h1, e⟩ | ⟨h1, h2, e⟩ | ⟨h1, h2, e⟩ <;> rw [e] <;> clear e
  · have h1' : Op.bytesLess a.toList b.toList = true := by rw [Lib.toList_data, Lib.toList_data]; exact h1
    clear h1
    go_enter Tryz.func58, Tryz.ntmps58
    go_wp2
    go_ret
    exact ⟨rfl, rfl⟩
  · have h1' : Op.bytesLess a.toList b.toList = false := by rw [Lib.toList_data, Lib.toList_data]; exact h1
    have h2' : (a.toList == b.toList) = false := by rw [Lib.toList_data, Lib.toList_data]; exact h2
    clear h1 h2
    go_enter Tryz.func58, Tryz.ntmps58
    go_wp2
    go_ret
    exact ⟨rfl, rfl⟩
  · have h1' : Op.bytesLess a.toList b.toList = false := by rw [Lib.toList_data, Lib.toList_data]; exact h1
    have h2' : (a.toList == b.toList) = true := by rw [Lib.toList_data, Lib.toList_data]; exact h2
    clear h1 h2
    go_enter Tryz.func58, Tryz.ntmps58
    go_wp2
    go_ret
    exact ⟨rfl, rfl⟩
end Go.Proofs.YtlgmanbilaminaaGreatDoor.S3
set_option linter.unusedVariables false
namespace Go.Proofs.YtlgmanbilaminaaGreatDoor.S3
open Go Go.Proofs Go.RowKit Go.Lib Go.Proofs.YtlgmanbilaminaaGreatDoor
theorem ex_trans {a b c : World} (h : ∃ q, b = a.drewN q) (k : ∃ q, c = b.drewN q) : ∃ q, c = a.drewN q := by
  obtain ⟨q, rfl⟩ := h
  obtain ⟨r, rfl⟩ := k
  exact ⟨q + r, by rw [World.drewN_drewN]⟩
set_option maxHeartbeats 8000000 in
set_option maxRecDepth 100000 in
theorem refCompare_any (a b : ByteArray) (ha : a.size ≤ 9223372036854775807) (hb : b.size ≤ 9223372036854775807) (w : World) :
    Calls Tryz.prog 32 #[.string a, .string b] w fun e w' => e = .returned (.int .i64 (cmpM (lst a) (lst b))) ∧ ∃ q, w' = w.drewN q := by
  rw [cmpM_or]
  obtain ⟨LX, hLX⟩ : ∃ x, lexC cmpE (elems (lst a)) (elems (lst b)) = x := ⟨_, rfl⟩
  have cS := order_any a b
  obtain ⟨y, hy⟩ : ∃ y, compareBytes (lst a) (lst b) = y := ⟨_, rfl⟩
  rw [hy] at cS ⊢
  rw [hLX]
  have HLX := hid hLX
  clear hLX hy
  go_enter Tryz.func32, Tryz.ntmps32
  go_wp2
  go_loopw [5, 6, 7, 8, 9, 10, 11, 12, 13] (fun xv yv _ _ _ _ _ _ _ wr => ∃ X Y : ByteArray, xv = .string X ∧ yv = .string Y ∧ X.size ≤ a.size ∧ Y.size ≤ b.size ∧ Hid (LX = lexC cmpE (elems (lst X)) (elems (lst Y))) ∧ Hid (∃ q, wr = w.drewN q)) (fun xv _ _ _ _ _ _ _ _ _ => strSize xv)
  case atStart => exact ⟨a, b, rfl, rfl, Nat.le_refl _, Nat.le_refl _, hid HLX.out.symm, hid ⟨0, rfl⟩⟩
  case round =>
    obtain ⟨X, Y, rfl, rfl, hXs, hYs, hE, hD⟩ := hrel
    by_cases hx : 0 < X.size
    · by_cases hy : 0 < Y.size
      · have CX := hid (fun w => element_any X hx (by omega) w)
        have CY := hid (fun w => element_any Y hy (by omega) w)
        have hst := hid (lex_step (lst X) (lst Y) (lst_ne hx) (lst_ne hy))
        have pX := elemN_pos _ (lst_ne hx)
        have pY := elemN_pos _ (lst_ne hy)
        have lX := elemN_le (lst X)
        have lY := elemN_le (lst Y)
        rw [show (lst X).length = X.size from (Lib.size_eq X).symm] at lX
        rw [show (lst Y).length = Y.size from (Lib.size_eq Y).symm] at lY
        obtain ⟨x1, x2, x3, _⟩ := str_no hx
        obtain ⟨y1, y2, y3, _⟩ := str_no hy
        go_wp2_with fail
        refine (CX.out _).mono ?_
        rintro e w1 ⟨⟨P, X', rfl, hP, hX'⟩, hq1⟩
        have sP : P.size = elemN (lst X) := by rw [Lib.size_eq, show P.data.toList = _ from hP, List.length_take, show (lst X).length = X.size from (Lib.size_eq X).symm]; omega
        have sX' : X'.size = X.size - elemN (lst X) := by rw [Lib.size_eq, show X'.data.toList = _ from hX', List.length_drop, show (lst X).length = X.size from (Lib.size_eq X).symm]
        have HP := hid hP
        have HX' := hid hX'
        have HD1 := hid (ex_trans hD.out hq1)
        have hP0 : 0 < P.size := by omega
        have hPs : P.size ≤ 9223372036854775807 := by omega
        have hXl : X'.size < X.size := by omega
        clear hP hX' hq1 hD x1 x2 x3 y1 y2 y3
        go_wp2_with fail
        refine (CY.out _).mono ?_
        rintro e w2 ⟨⟨Q, Y', rfl, hQ, hY'⟩, hq2⟩
        have sQ : Q.size = elemN (lst Y) := by rw [Lib.size_eq, show Q.data.toList = _ from hQ, List.length_take, show (lst Y).length = Y.size from (Lib.size_eq Y).symm]; omega
        have sY' : Y'.size = Y.size - elemN (lst Y) := by rw [Lib.size_eq, show Y'.data.toList = _ from hY', List.length_drop, show (lst Y).length = Y.size from (Lib.size_eq Y).symm]
        have HQ := hid hQ
        have HY' := hid hY'
        have HD2 := hid (ex_trans HD1.out hq2)
        have hQ0 : 0 < Q.size := by omega
        have hQs : Q.size ≤ 9223372036854775807 := by omega
        have hYl : Y'.size < Y.size := by omega
        clear hQ hY' hq2 sP sX' sQ sY' HD1 CX CY
        have hc : Hid (LX = if cmpE (lst P) (lst Q) = 0 then lexC cmpE (elems (lst X')) (elems (lst Y')) else cmpE (lst P) (lst Q)) := hid (by rw [hE.out, hst.out, HP.out, HQ.out, HX'.out, HY'.out])
        have na := numS_eq P hP0
        have nb := numS_eq Q hQ0
        have cA := digit_any (P[0]'hP0)
        have cB := digit_any (Q[0]'hQ0)
        obtain ⟨u, hu⟩ : ∃ x, P[0]'hP0 = x := ⟨_, rfl⟩
        obtain ⟨v, hv⟩ : ∃ x, Q[0]'hQ0 = x := ⟨_, rfl⟩
        rw [hu] at na cA
        rw [hv] at nb cB
        have eT := cmpE_texts (lst P) (lst Q)
        have eN := cmpE_nums' (lst P) (lst Q)
        have eX := cmpE_num (lst P) (lst Q)
        have eY := cmpE_other (lst P) (lst Q)
        obtain ⟨c, hcc⟩ : ∃ c, cmpE (lst P) (lst Q) = c := ⟨_, rfl⟩
        rw [hcc] at hc eT eN eX eY
        clear hcc
        rw [na, nb] at eT eN eX eY
        clear na nb hE hst
        cases hdx : dg u <;> cases hdy : dg v <;> rw [hdx] at cA eT eN eX eY <;> rw [hdy] at cB eT eN eX eY <;> clear hdx hdy
        · have hr := eT rfl rfl
          have cO := order_any P Q
          rw [← hr] at cO
          clear eT eN eX eY hr
          by_cases h0 : c = 0
          · have hz : ((c : Int) != 0) = false := by simp [h0]
            have hn : Hid (LX = lexC cmpE (elems (lst X')) (elems (lst Y'))) := hid (by rw [hc.out, if_pos h0])
            clear h0 hc
            go_wp2
            go_quiet ((first | (go_at_call_of 56 u.toNat; with_reducible refine Calls.quiet_of_same ((cA _).mono fun _ _ h => ⟨h.1, h.2.symm⟩)) | (go_at_call_of 56 v.toNat; with_reducible refine Calls.quiet_of_same ((cB _).mono fun _ _ h => ⟨h.1, h.2.symm⟩))))
            go_wp2_with fail
            refine (cO _).mono ?_
            rintro e w3 ⟨rfl, rfl⟩
            go_wp2
            go_roundw
            case rel => exact ⟨X', Y', rfl, rfl, by omega, by omega, hn, hid (ex_drew HD2.out _)⟩
            case measure => exact hXl
          · have hz : ((c : Int) != 0) = true := by simpa using h0
            have hn : Hid (orI LX y = c) := hid (by rw [hc.out, if_neg h0]; exact if_neg h0)
            clear h0 hc
            go_wp2
            go_quiet ((first | (go_at_call_of 56 u.toNat; with_reducible refine Calls.quiet_of_same ((cA _).mono fun _ _ h => ⟨h.1, h.2.symm⟩)) | (go_at_call_of 56 v.toNat; with_reducible refine Calls.quiet_of_same ((cB _).mono fun _ _ h => ⟨h.1, h.2.symm⟩))))
            go_wp2_with fail
            refine (cO _).mono ?_
            rintro e w3 ⟨rfl, rfl⟩
            go_wp2
            go_ret
            rw [hn.out]
            exact ⟨rfl, ex_drew HD2.out _⟩
        · have hr := eY rfl rfl
          have hn : Hid (orI LX y = 1) := hid (by rw [hc.out, hr]; rfl)
          clear eT eN eX eY hr hc
          go_wp2
          go_quiet ((first | (go_at_call_of 56 u.toNat; with_reducible refine Calls.quiet_of_same ((cA _).mono fun _ _ h => ⟨h.1, h.2.symm⟩)) | (go_at_call_of 56 v.toNat; with_reducible refine Calls.quiet_of_same ((cB _).mono fun _ _ h => ⟨h.1, h.2.symm⟩))))
          go_wp2
          go_ret
          rw [hn.out]
          exact ⟨rfl, ex_drew HD2.out _⟩
        · have hr := eX rfl rfl
          have hn : Hid (orI LX y = -1) := hid (by rw [hc.out, hr]; rfl)
          clear eT eN eX eY hr hc
          go_wp2
          go_quiet ((first | (go_at_call_of 56 u.toNat; with_reducible refine Calls.quiet_of_same ((cA _).mono fun _ _ h => ⟨h.1, h.2.symm⟩)) | (go_at_call_of 56 v.toNat; with_reducible refine Calls.quiet_of_same ((cB _).mono fun _ _ h => ⟨h.1, h.2.symm⟩))))
          go_wp2
          go_ret
          rw [hn.out]
          exact ⟨rfl, ex_drew HD2.out _⟩
        · have hr := hid (eN rfl rfl)
          clear eT eN eX eY
          go_wp2
          go_quiet ((first | (go_at_call_of 56 u.toNat; with_reducible refine Calls.quiet_of_same ((cA _).mono fun _ _ h => ⟨h.1, h.2.symm⟩)) | (go_at_call_of 56 v.toNat; with_reducible refine Calls.quiet_of_same ((cB _).mono fun _ _ h => ⟨h.1, h.2.symm⟩))))
          go_wp2_with fail
          refine (bare_any P hPs _).mono ?_
          rintro e w3 ⟨⟨U, rfl, hU, hUs⟩, rfl⟩
          have HU := hid hU
          clear hU
          go_wp2_with fail
          refine (bare_any Q hQs _).mono ?_
          rintro e w3 ⟨⟨V, rfl, hV, hVs⟩, rfl⟩
          have HV := hid hV
          clear hV
          have cO := order_any U V
          have hr2 : Hid (c = orI (cmpI (U.size : Int) (V.size : Int)) (compareBytes (lst U) (lst V))) := hid (by
            rw [hr.out, ← HU.out, ← HV.out, show (lst U).length = U.size from (Lib.size_eq U).symm, show (lst V).length = V.size from (Lib.size_eq V).symm])
          obtain ⟨o, ho⟩ : ∃ o, compareBytes (lst U) (lst V) = o := ⟨_, rfl⟩
          rw [ho] at cO hr2
          clear ho hr HU HV
          rcases Nat.lt_trichotomy U.size V.size with hl | hl | hl
          · have l1 : (U.size : Int) < (V.size : Int) := by omega
            have l2 : ¬ (V.size : Int) < (U.size : Int) := by omega
            have hn : Hid (orI LX y = -1) := hid (by rw [hc.out, hr2.out]; unfold cmpI; rw [if_pos l1]; rfl)
            clear hr2 hc hl
            go_wp2_with fail
            refine (cO _).mono ?_
            rintro e w3 ⟨rfl, rfl⟩
            go_wp2
            go_ret
            rw [hn.out]
            exact ⟨rfl, ex_drew HD2.out _⟩
          · have l1 : ¬ (U.size : Int) < (V.size : Int) := by omega
            have l2 : ¬ (V.size : Int) < (U.size : Int) := by omega
            have hco : Hid (c = o) := hid (by rw [hr2.out]; unfold cmpI; rw [if_neg l1, if_neg l2]; rfl)
            clear hr2 hl
            by_cases h0 : o = 0
            · have hz : ((o : Int) != 0) = false := by simp [h0]
              have hn : Hid (LX = lexC cmpE (elems (lst X')) (elems (lst Y'))) := hid (by rw [hc.out, hco.out, if_pos h0])
              clear h0 hc hco
              go_wp2_with fail
              refine (cO _).mono ?_
              rintro e w3 ⟨rfl, rfl⟩
              go_wp2
              go_roundw
              case rel => exact ⟨X', Y', rfl, rfl, by omega, by omega, hn, hid (ex_drew HD2.out _)⟩
              case measure => exact hXl
            · have hz : ((o : Int) != 0) = true := by simpa using h0
              have hn : Hid (orI LX y = o) := hid (by rw [hc.out, hco.out, if_neg h0]; exact if_neg h0)
              clear h0 hc hco
              go_wp2_with fail
              refine (cO _).mono ?_
              rintro e w3 ⟨rfl, rfl⟩
              go_wp2
              go_ret
              rw [hn.out]
              exact ⟨rfl, ex_drew HD2.out _⟩
          · have l1 : ¬ (U.size : Int) < (V.size : Int) := by omega
            have l2 : (V.size : Int) < (U.size : Int) := by omega
            have hn : Hid (orI LX y = 1) := hid (by rw [hc.out, hr2.out]; unfold cmpI; rw [if_neg l1, if_pos l2]; rfl)
            clear hr2 hc hl
            go_wp2_with fail
            refine (cO _).mono ?_
            rintro e w3 ⟨rfl, rfl⟩
            go_wp2
            go_ret
            rw [hn.out]
            exact ⟨rfl, ex_drew HD2.out _⟩
      · have hl := lex_end X Y (.inr hy)
        obtain ⟨x1, x2, x3, x4⟩ := str_no hx
        obtain ⟨y1, y2, y3, y4⟩ := str_yes hy
        have hn : Hid (orI LX y = 1) := hid (by rw [hE.out, hl]; unfold cmpI; rw [if_neg (by omega), if_pos (by omega)]; rfl)
        clear hl hE
        go_wp2
        go_ret
        rw [hn.out]
        exact ⟨rfl, hD.out⟩
    · have hl := lex_end X Y (.inl hx)
      obtain ⟨x1, x2, x3, x4⟩ := str_yes hx
      by_cases hy : 0 < Y.size
      · obtain ⟨y1, y2, y3, y4⟩ := str_no hy
        have hn : Hid (orI LX y = -1) := hid (by rw [hE.out, hl]; unfold cmpI; rw [if_pos (by omega)]; rfl)
        clear hl hE
        go_wp2
        go_ret
        rw [hn.out]
        exact ⟨rfl, hD.out⟩
      · obtain ⟨y1, y2, y3, y4⟩ := str_yes hy
        have hn : Hid (orI LX y = y) := hid (by rw [hE.out, hl]; unfold cmpI; rw [if_neg (by omega), if_neg (by omega)]; rfl)
        clear hl hE
        go_wp2_with fail
        refine (cS _).mono ?_
        rintro e w3 ⟨rfl, rfl⟩
        go_wp2
        go_ret
        rw [hn.out]
        exact ⟨rfl, hD.out⟩
end Go.Proofs.YtlgmanbilaminaaGreatDoor.S3
