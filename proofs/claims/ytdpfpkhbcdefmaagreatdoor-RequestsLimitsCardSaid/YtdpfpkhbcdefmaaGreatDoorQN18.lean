/-
  Small general facts and definitions, taken out of R7O. No program.
  The program's Wanted, given what the stable sort does. Conditions: the requests lie in memory.
  Records out of lists of fields: Plain of the specification of records. Conditions: the lists lie in memory; no more than 1000000 of each, of at most 1000000 bytes each.
  Runs of weeks and their texts: the program's runAhead and writeItem, the specification's Decimal. Conditions: the weeks lie in memory as a slice of ints; the numbers are below 100.
  The small functions of timegrid: within, minuteOf, endOf, isGrid, isFrame, Valid, Sound, Fits. Conditions: numbers that are added fit.
  Decimals of numbers below 10000, by the specification and by the library. Conditions: the library's table holds what its text lays.
  Requests as they are made: nothing is wrong with them, they are read as they were written, and the students want all of them. No program.
  That the specification finds equal lists of requests equal. Conditions: the lists lie in memory.
  What reading a field and an entry leave behind; a curriculum in a block of its own. Conditions: as stated.
  What holds while curricula are read out of records. Conditions: as stated.
-/
import Derived.Test.YtdpfpkhbcdefmaaGreatDoorQN01
import Derived.Test.YtdpfpkhbcdefmaaGreatDoorQN02
import Derived.Test.YtdpfpkhbcdefmaaGreatDoorQN03
import Derived.Test.YtdpfpkhbcdefmaaGreatDoorQN04
import Derived.Test.YtdpfpkhbcdefmaaGreatDoorQN05
import Derived.Test.YtdpfpkhbcdefmaaGreatDoorQN06
import Derived.Test.YtdpfpkhbcdefmaaGreatDoorQN07
import Derived.Test.YtdpfpkhbcdefmaaGreatDoorQN08
import Derived.Test.YtdpfpkhbcdefmaaGreatDoorQN09
import Derived.Test.YtdpfpkhbcdefmaaGreatDoorQN10
import Derived.Test.YtdpfpkhbcdefmaaGreatDoorQN11
import Derived.Test.YtdpfpkhbcdefmaaGreatDoorQN12
import Derived.Test.YtdpfpkhbcdefmaaGreatDoorQN13
import Derived.Test.YtdpfpkhbcdefmaaGreatDoorQN14
import Derived.Test.YtdpfpkhbcdefmaaGreatDoorQN15
import Derived.Test.YtdpfpkhbcdefmaaGreatDoorQN16
import Derived.Test.YtdpfpkhbcdefmaaGreatDoorQN17
import Derived.Test.YtdpfpkhbcdefmaaGreatDoorProg
import Derived.WalkKit
import Derived.WalkSpells
import Derived.WalkLawsBesides
import Derived.Lib.Hide
import Derived.Deep.QuietTactic
import Derived.BigQuiet
import Derived.Laws.Rows
import Derived.OwnWalk
import Derived.Lib.BufferWrite
import Derived.Lib.UnsafeStr
import Derived.Laws.IdiomStrings
import Derived.Laws.BytesArg
import Derived.Laws.BytesString
import Derived.Laws.OwnMore
import Derived.Lib.IndexLaws
import Derived.Lib.ItoaNum
import Derived.Lib.Atoi
import Derived.Lib.Bytealg
import Derived.Laws.ResultCell
import Derived.RegionTactic
import Derived.Sort.WalkA
import Derived.Sort.LotA
import Derived.Shelf.SlSortCmp.Insertion
import Derived.Shelf.SlGeneric
import Derived.Shelf.SlSortCmp.NoneTotal
import Derived.Ground.SlsfProg
import Derived.Shelf.Strings.Builder1
import Derived.Shelf.Strings.Builder2
import Derived.Shelf.Strings.OnBuilder
import Derived.Shelf.Strings.Trim
import Derived.Shelf.Small.Utf8
import Derived.Shelf.Small.Bits
import Derived.Shelf.Small.Strs
import Derived.Shelf.Small.Wraps
import Derived.Shelf.Strings.BuilderF
import Derived.Shelf.Strings.BuilderK
import Derived.Shelf.Strings.Builder2Cap
import Derived.Shelf.Strconv.Atoi
import Derived.Shelf.Strconv.Itoa0
import Derived.Shelf.Strconv.Itoa1
import Derived.Shelf.LaysM
import Derived.Shelf.Strconv.Itoa2
import Derived.Shelf.Strconv.Itoa3
import Derived.Shelf.Strconv.AtoiErrFast
import Derived.Shelf.Strconv.ParseIntEmpty
import Derived.Shelf.Strconv.AtoiFail
import Derived.Shelf.Strconv.Clone
import Derived.Shelf.Strconv.SyntaxError
import Derived.Shelf.LaysC
import Derived.Shelf.Strconv.ToError
import Derived.Shelf.Strconv.AtoiErr
import Derived.Shelf.Strings.Search1
import Derived.Shelf.Strings.Search2
import Derived.Shelf.Strings.Search3
import Derived.Shelf.Strings.Cut
import Derived.Shelf.Strings.Shaped
import Derived.Shelf.Strings.Prefix
import Derived.Shelf.Strings.Runes
import Derived.Shelf.Strings.AsciiSet
import Derived.Shelf.Bits.Mul64
import Derived.Shelf.Strings.Repeat
import Derived.Shelf.Unicode.DecodeSlow
import Derived.Shelf.Strings.BuilderCap
import Derived.Shelf.Slices.Turned
import Derived.Ground.Names2Prog
import Derived.Shelf.Slices.Clone
import Derived.Shelf.SlSortCmp.Insertion1
import Derived.RangeFuncNested
import Derived.RangeFuncBound
import Derived.RangeFuncCalls
import Derived.RangeFuncLeaves
import Derived.Shelf.Abstract
import Derived.Shelf.RegionOpen
import Derived.OwnWalkIn
import Derived.Lib.SlTrimSet
import Derived.Shelf.Strings.SlTrimAscii
import Derived.Lib.AtoiErrMem
import Derived.Handy
import Derived.Lib.Repeat
import Derived.Deep.RegionHeld3
import Derived.Lib.SlicesS
import Derived.TacticsInMore
import Derived.LoopNIn
import Derived.LoopIn
import Derived.Laws.BitsAllLaws
import Derived.Laws.BitsLemmas
import Derived.Deep.MidRow
import Derived.Deep.DeepCutAuto
import Derived.Lib.Join
import Derived.Laws.Concat
import Derived.Maps.OwnSet
import Derived.Maps.Range
import Derived.Deep.RegionLaw
import Derived.Maps.AppendAt
import Derived.Deep.AppendLies
import Derived.Lib.AppendIntMem
import Derived.Laws.AppendOwn
import Derived.IntWalk
import Derived.OneCell
import Derived.Laws.Tables
import Derived.Laws.CopyOwn
import Derived.OrdersHeld
import Derived.Deep.CutBlock
import Derived.DeepKeys4
import Derived.Maps.OwnOps
import Derived.Maps.Ext
import Derived.Lib.QuietBelow
import Derived.Maps.RangeWalk
import Derived.Sort.KeysCollected
import Derived.Sort.OwnSorted
set_option linter.unusedVariables false
namespace Go.Proofs.YtdpfpkhbcdefmaaGreatDoor
open Go Go.Proofs Go.RowKit Go.Lib

theorem results_ctt {fn : Func} {p u v : Tmp} {A : TypeId} (h : fn.results = #[.cell p A, .tmp u, .tmp v]) (tmps : Array Value) (P : Program) (w : World) (a : Addr) (va vc vd : Value)
    (ha : tmps.getD p undef = .pointer (some a)) (hc : tmps.getD u undef = vc) (hd : tmps.getD v undef = vd)
    (hla : (loadVar A a).run P w = .ok va w) : (results fn tmps).run P w = .ok (.tuple #[va, vc, vd]) w := by
  rw [Array.getD_eq_getD_getElem?] at ha hc hd
  simp only [results, h]
  simp [Result.andThen, ha, hc, hd, hla, asAddr]
theorem grown_of_below {w w' : World} (h : Below w.heap.size w w') : w.grownBy w' none := ⟨h.os, h.tape, h.output, h.size, fun k hk _ => h.block k hk⟩
theorem put_grown {W w2 : World} (hb : Below W.heap.size W w2) (R j : Nat) (v : Value) : W.grownBy (w2.setCell ⟨R, j, none⟩ v) (some R) :=
  ((grown_of_below hb).but (some R)).trans ⟨by simp [World.setCell], by simp [World.setCell], by simp [World.setCell], by simp [World.setCell], fun k _ hk => Below.heap_setCell w2 ⟨R, j, none⟩ v k (fun e => hk (by rw [show k = R from e]))⟩
end Go.Proofs.YtdpfpkhbcdefmaaGreatDoor

set_option linter.unusedVariables false
namespace Go.Proofs.YtdpfpkhbcdefmaaGreatDoor.S12
open Go Go.Proofs Go.RowKit Go.Lib Go.Sort Go.Proofs.YtdpfpkhbcdefmaaGreatDoor

theorem Box4.put3' {w : World} {B : Nat} {v0 v1 v2 v3 : Value} (h : Box4 w B v0 v1 v2 v3) (u : Value) : Box4 (w.setCell ⟨B, 3, none⟩ u) B v0 v1 v2 u := ⟨by rw [heap_setCell_same w B 3 _ _ u h.h]; rfl⟩
def wantF (l : List ReqD) (s : Str) : List ReqD := l.filter (fun r => decide (r.s = s))
/-- The requests of a student by their priority. -/
def wantM (l : List ReqD) (s : Str) : List ReqD := sortP (fun r : ReqD => r.p) (wantF l s)
theorem wantF_take (l : List ReqD) (s : Str) (i : Nat) (h : i < l.length) : wantF (l.take (i + 1)) s = if l[i].s = s then wantF (l.take i) s ++ [l[i]] else wantF (l.take i) s := by
  unfold wantF
  rw [List.take_succ_eq_append_getElem h, List.filter_append]
  by_cases hs : l[i].s = s
  · rw [if_pos hs, List.filter_cons_of_pos (by simpa using hs)]; rfl
  · rw [if_neg hs, List.filter_cons_of_neg (by simpa using hs)]; simp

theorem clone_any (A : Option Addr) (l : List Str) (c : Nat) (P : Nat → Prop) (w : World) (h : S3.StrsIn w P A l) (hn : l.length ≤ 8796093022208) :
    Calls Tryz.prog 49 #[.slice A l.length c] w fun e w' => (∃ v, e = .returned v ∧ S3.StrRow w' w.heap.size v l) ∧ Below w.heap.size w w' := by
  cases A with
  | none =>
    have hl : l = [] := by
      rcases h with h | ⟨b, off, e, _⟩
      · exact h
      · cases e
    subst hl
    refine (Tryz.slices_Clone_string_nil 0 c w).mono ?_
    rintro e w' ⟨rfl, rfl⟩
    exact ⟨⟨_, rfl, World.ownsRow_nil _ _ _ _⟩, Below.refl _ _⟩
  | some a =>
    rcases h with h | ⟨b, off, e, hb, hc⟩
    · subst h
      refine (Tryz.slices_Clone_string_zero a c w).mono ?_
      rintro e w' ⟨v, rfl, hown, _, hbl⟩
      exact ⟨⟨v, rfl, hown⟩, hbl⟩
    · injection e with e
      subst e
      have hz : (l.map ba).length = l.length := by simp
      refine (Tryz.slices_Clone_string b off l.length c (l.map ba) w (by rw [hz]; exact Nat.le_refl _) (by omega) (fun j hj => ?_)).mono ?_
      · rw [hz] at hj
        have h1 := hc j _ (List.getElem?_eq_getElem hj)
        rw [h1]
        simp [S3.strV, List.getD, hj, ba]
      · rintro e w' ⟨v, rfl, hown, _, hbl⟩
        refine ⟨⟨v, rfl, ?_⟩, hbl⟩
        rw [List.take_of_length_le (by rw [hz]; exact Nat.le_refl _), List.map_map] at hown
        exact hown

/-- What holds while the requests of a student are collected. -/
structure WInv (w : World) (v : Value) (Lr : List ReqP) (W : World) : Prop where
  row : W.ownsRow w.heap.size 61 4 v Lr.length (reqVals Lr)
  ins : ∀ p ∈ Lr, ReqIn W (fun k => w.heap.size ≤ k ∧ k < W.heap.size ∧ some k ≠ v.ownBlock) p.1 p.2
  b : Below w.heap.size w W
theorem WInv.start (w : World) : WInv w (.slice none 0 0) [] w := ⟨World.ownsRow_nil _ _ _ _, fun p hp => by simp at hp, Below.refl _ _⟩
theorem WInv.next {w W W' : World} {v : Value} {Lr : List ReqP} (h : WInv w v Lr W) (hb : Below W.heap.size W W') : WInv w v Lr W' :=
  ⟨row_under h.row hb, fun p hp => ((h.ins p hp).kept (fun k hk => hb.block k hk.2.1)).mono (fun k hk => ⟨hk.1, Nat.lt_of_lt_of_le hk.2.1 hb.size, hk.2.2⟩), h.b.trans (hb.mono h.b.size)⟩
theorem WInv.past {w W W' : World} {v : Value} {Lr : List ReqP} {R : Nat} (h : WInv w v Lr W) (hg : W.grownBy W' (some R)) (hR : W.heap.size ≤ R) : WInv w v Lr W' := by
  have hs := hg.size
  have hw := h.b.size
  refine ⟨World.ownsRow.kept h.row hg ?_, fun p hp => ((h.ins p hp).kept (fun k hk => hg.block k hk.2.1 (fun e => by injection e; omega))).mono (fun k hk => ⟨hk.1, by omega, hk.2.2⟩), h.b.grown hg h.b.size (fun k e => by injection e; omega)⟩
  rcases hv : v.ownBlock with _ | g
  · exact .inl rfl
  · exact .inr (fun e => by have := (own_lt h.row g hv).2; injection e with e; omega)
theorem WInv.snoc {w wr W3 W5 : World} {v v' : Value} {Lr : List ReqP} {r : ReqD} {q : ReqA} {o : Obj} (h : WInv w v Lr W3) (hlt : ∀ k, v.ownBlock = some k → k < wr.heap.size) (hwr : w.heap.size ≤ wr.heap.size) (hr : ReqIn W3 (fun k => wr.heap.size < k ∧ k < W3.heap.size) r q)
    (hown : W5.ownsRow w.heap.size 61 4 v' (Lr.length + 1) (reqVals Lr ++ reqVs r q)) (hgrow : (W3.alloc o).grownBy W5 v.ownBlock) (hat : v'.ownBlock = v.ownBlock ∨ v'.ownBlock = some (W3.alloc o).heap.size) : WInv w v' (Lr ++ [(r, q)]) W5 := by
  have hg := grownBy_of_alloc hgrow
  have hs := hg.size
  have hsa : (W3.alloc o).heap.size = W3.heap.size + 1 := by simp
  have hne : ∀ k, k < W3.heap.size → some k ≠ v.ownBlock → some k ≠ v'.ownBlock := by
    intro k hk hn
    rcases hat with e | e
    · rw [e]; exact hn
    · rw [e]; intro e0; injection e0 with e0; omega
  refine ⟨?_, fun p hp => ?_, h.b.grown hg h.b.size (fun k e => (own_lt h.row k e).1)⟩
  · rw [reqVals_app, List.length_append, List.length_singleton]
    simpa [reqVals] using hown
  · rcases List.mem_append.1 hp with hp | hp
    · exact ((h.ins p hp).kept (fun k hk => hg.block k hk.2.1 hk.2.2)).mono (fun k hk => ⟨hk.1, by omega, hne k hk.2.1 hk.2.2⟩)
    · rw [List.mem_singleton] at hp
      subst hp
      have k1 : ∀ k, wr.heap.size < k → some k ≠ v.ownBlock := fun k hk e => by have := hlt k e.symm; omega
      exact (hr.kept (fun k hk => hg.block k hk.2 (k1 k hk.1))).mono (fun k hk => ⟨by omega, by omega, hne k hk.2 (k1 k hk.1)⟩)

/-- What Wanted leaves behind. -/
def WantOut (o : List ReqD) (w : World) (e : Ending) (w' : World) : Prop := (∃ v, e = .returned v ∧ ReqRow w' w.heap.size (fun k => w.heap.size ≤ k ∧ k < w'.heap.size) v o) ∧ Below w.heap.size w w'
set_option maxHeartbeats 16000000 in
set_option maxRecDepth 100000 in
theorem wanted_any (A : Option Addr) (l : List ReqD) (c : Nat) (x : ByteArray) (w : World) (h : ReqsIn w (fun k => k < w.heap.size) A l) (hl : l.length ≤ 1099511627776) (hi : ∀ r ∈ l, r.l.length ≤ 8796093022208) (hS : StableSaid (wantF l (lst x)).length) :
    Calls Tryz.prog 20 #[.slice A l.length c, .string x] w (WantOut (wantM l (lst x)) w) := by
  obtain ⟨i5, hi5, hz5, hs5, hb5⟩ := info_parts infoReq
  unfold WantOut
  have HH := hid (fun (w' : World) (hb : Below w.heap.size w w') => h.below hb)
  have HI := hid hi
  have HL := hid hl
  have HS := hid hS
  have HW0 := hid (WInv.start w)
  clear h hi hS hl
  go_enter Tryz.func20, Tryz.ntmps20
  go_wp2
  go_loopw [5, 10] (fun v iv wr => ∃ (i : Nat) (Lr : List ReqP) (Av : Option Addr) (nv cv : Nat), v = .slice Av nv cv ∧ iv = .int .i64 (i : Int) ∧ i ≤ l.length ∧ Hid (Lr.map (·.1) = wantF (l.take i) (lst x)) ∧ Hid (Lr.length = nv) ∧ Hid (WInv w (.slice Av nv cv) Lr wr)) (fun _ iv _ => l.length - (RowKit.intOf iv).toNat)
  case atStart => exact ⟨0, [], none, 0, 0, rfl, rfl, Nat.zero_le _, hid rfl, hid rfl, HW0⟩
  case round =>
    obtain ⟨i, Lr, Av, nv, cv, rfl, rfl, hi, hM, hN, hW⟩ := hrel
    by_cases hlt : i < l.length
    · have hltz : (i : Int) < (l.length : Int) := by omega
      have hib : i + 1 ≤ 1099511627776 := by have := HL.out; omega
      obtain ⟨fb, fo, q, rfl, hfb, hri, y0, y1, y2, y3⟩ := (HH.out _ hW.out.b).at_ hlt
      have hst := wantF_take l (lst x) i hlt
      have hil := HI.out _ (List.getElem_mem hlt)
      have hb1 := (Below.refl wr.heap.size wr).alloc (Nat.le_refl _) (.cells #[.string (ba l[i].s), .string (ba l[i].c), .int .i64 l[i].p, .slice q.1 l[i].l.length q.2] 61)
      have hX := Box4.new wr (.string (ba l[i].s)) (.string (ba l[i].c)) (.int .i64 l[i].p) (.slice q.1 l[i].l.length q.2)
      have cC := fun W (hb : Below wr.heap.size wr W) => clone_any q.1 l[i].l q.2 _ W ((hri.below (hb.mono hW.out.b.size)).t) hil
      have hin := hri
      obtain ⟨⟨s, co, p, ins⟩, hr⟩ : ∃ r, l[i] = r := ⟨_, rfl⟩
      rw [hr] at y0 y1 y2 y3 hst hb1 hX cC hin
      dsimp only at y0 y1 y2 y3 hst hb1 hX cC hil
      obtain ⟨S, hSs⟩ : ∃ S, ba s = S := ⟨_, rfl⟩
      obtain ⟨C, hCo⟩ : ∃ S, ba co = S := ⟨_, rfl⟩
      obtain ⟨n, hn⟩ : ∃ n, ins.length = n := ⟨_, rfl⟩
      rw [hSs] at y0 hb1 hX
      rw [hCo] at y1 hb1 hX
      rw [hn] at y3 hb1 hX cC
      have hSl : S.toList = s := by rw [Lib.toList_data, ← hSs]; rfl
      have hXl : x.toList = lst x := Lib.toList_data x
      have HSs := hid hSs
      have HCo := hid hCo
      have HNN := hid hn
      have HB1 := hid hb1
      have HX := hid hX
      have CC := hid cC
      by_cases hs : s = lst x
      · rw [if_pos hs] at hst
        have hbe : (S.toList == x.toList) = true := by rw [hSl, hXl, hs]; simp
        have HST := hid hst
        have hown := fun k e => (own_lt hW.out.row k e).2
        have HOL := hid hown
        clear hst hs hr hri hin hSs hCo hn hb1 hX cC hSl hXl hil hfb hown
        go_wp2_with fail
        generalize wr.alloc (.cells #[.string S, .string C, .int .i64 p, .slice q.1 n q.2] 61) = w1 at HB1 HX ⊢
        refine (CC.out w1 HB1.out).mono ?_
        rintro e w2 ⟨⟨v2, rfl, hrow⟩, hb2⟩
        obtain ⟨A2, c2, rfl, g1, g2, g3⟩ := hrow.strsIn
        have HX2 := hid (HX.out.next hb2)
        have hb12 : Below wr.heap.size wr w2 := HB1.out.trans (hb2.mono HB1.out.size)
        have HB12 := hid hb12
        have hlx := HX.out.lt
        have hg3 : S3.StrsIn w2 (fun k => wr.heap.size < k ∧ k < w2.heap.size) A2 ins := g3.mono (fun k hk => ⟨by omega, hk.2⟩)
        have HG3 := hid hg3
        have HG1 := hid (And.intro g1 g2)
        have hnn := HNN.out
        rw [hnn]
        clear hb2 hrow g1 g2 g3 hg3 hb12 hnn
        obtain ⟨x0, x1, x2, x3⟩ := HX2.out.cells
        have hf := HX2.out.free 3
        have hg := hid (put_grown HB12.out wr.heap.size 3 (.slice A2 n c2))
        have HB5 := hid (Box4.put3' HX2.out (.slice A2 n c2))
        have hW3 := hid (hW.out.past hg.out (Nat.le_refl _))
        have hRI : ReqIn (w2.setCell ⟨wr.heap.size, 3, none⟩ (.slice A2 n c2)) (fun k => wr.heap.size < k ∧ k < (w2.setCell ⟨wr.heap.size, 3, none⟩ (.slice A2 n c2)).heap.size) ⟨s, co, p, ins⟩ (A2, c2) :=
          ⟨(HG3.out.kept (fun b hb => Below.heap_setCell w2 ⟨wr.heap.size, 3, none⟩ _ b (fun e => by have : b = wr.heap.size := e; omega))).mono (fun b hb => ⟨hb.1, by simpa [World.setCell] using hb.2⟩), HG1.out.1, HG1.out.2⟩
        have HRI := hid hRI
        have hn5 := four_newR (w2.setCell ⟨wr.heap.size, 3, none⟩ (.slice A2 n c2)) ⟨s, co, p, ins⟩ (A2, c2)
        unfold reqVs at hn5
        dsimp only at hn5
        rw [HSs.out, HCo.out, HNN.out, show (w2.setCell ⟨wr.heap.size, 3, none⟩ (.slice A2 n c2)).heap.size = w2.heap.size by simp] at hn5
        have HN5 := hid hn5
        have hvs : reqVs ⟨s, co, p, ins⟩ (A2, c2) = [.string S, .string C, .int .i64 p, .slice A2 n c2] := by unfold reqVs; dsimp only; rw [HSs.out, HCo.out, HNN.out]
        have HON : Hid (∀ u ∈ [Value.string S, .string C, .int .i64 p, .slice A2 n c2], u.oneCell' = true) := hid (by rw [← hvs]; exact req_one _ _)
        have HVS := hid hvs
        have hnl : Lr.length ≤ l.length := by
          have := congrArg List.length hM.out
          rw [List.length_map] at this
          rw [this]
          exact Nat.le_trans (List.length_filter_le _ _) (by simp; omega)
        have HMX : Hid (nv + 1 ≤ maxLen) := hid (by have := hN.out; have := HL.out; unfold maxLen; omega)
        have HBY : Hid ((nv + 1) * 64 ≤ 140737488355328) := hid (by have := hN.out; have := HL.out; omega)
        have hrow3 := hW3.out.row
        rw [hN.out] at hrow3
        have HR3 := hid (World.ownsRow.alloc hrow3 (.cells #[.string S, .string C, .int .i64 p, .slice A2 n c2] 61))
        have HWS : Hid (w.heap.size ≤ ((w2.setCell ⟨wr.heap.size, 3, none⟩ (.slice A2 n c2)).alloc (.cells #[.string S, .string C, .int .i64 p, .slice A2 n c2] 61)).heap.size) := hid (by have := hW3.out.b.size; simp at this ⊢; omega)
        clear hRI hn5 hvs hnl hrow3
        go_wp2_with (at_builtin; refine wpList_append_own_at _ rfl _ _ 22 rfl w.heap.size 61 i5 (.agg #[.string ⟨#[]⟩, .string ⟨#[]⟩, .int .i64 0, .slice none 0 0]) 4 64 Tryz.underlying22 hi5 hz5 hs5 hb5 rfl (by decide) _ nv (reqVals Lr) rfl HR3.out ⟨w2.heap.size, 0, none⟩ 1 1 [.string S, .string C, .int .i64 p, .slice A2 n c2] rfl rfl HN5.out HON.out HMX.out HBY.out HWS.out ?_)
        intro v' w5 hown' hgrow _ hat
        obtain ⟨g', cap', rfl⟩ := ownsRow_succ (k := nv) hown'
        rw [← HVS.out, ← hN.out] at hown'
        have hW5 := WInv.snoc (v' := .slice (some ⟨g', 0, none⟩) (nv + 1) cap') hW3.out HOL.out hW.out.b.size HRI.out (by rw [hN.out] at hown' ⊢; exact hown') hgrow (hat.imp id (fun h => h.trans (by simp)))
        have HW5 := hid hW5
        clear hW5 hown' hgrow hat
        go_wp2_with fail
        go_roundw
        case rel => exact ⟨i + 1, Lr ++ [(⟨s, co, p, ins⟩, (A2, c2))], _, _, _, rfl, by go_num, by omega, hid (by rw [HST.out, List.map_append, hM.out]; rfl), hid (by rw [List.length_append, List.length_singleton, hN.out]), HW5⟩
        case measure => simp [RowKit.intOf]; omega
      · rw [if_neg hs] at hst
        have hbe : (S.toList == x.toList) = false := by rw [hSl, hXl]; simpa using hs
        have HST := hid hst
        have HW1 := hid (hW.out.next HB1.out)
        clear hst hs hr hri hin hSs hCo hn hb1 hX cC hSl hXl hil hfb
        go_wp2
        go_roundw
        case rel => exact ⟨i + 1, Lr, Av, nv, cv, rfl, by go_num, by omega, hid (by rw [HST.out]; exact hM.out), hid hN.out, hid HW1.out⟩
        case measure => simp [RowKit.intOf]; omega
    · have hltz : ¬ (i : Int) < (l.length : Int) := by omega
      rw [List.take_of_length_le (by omega)] at hM
      obtain rfl := hN.out
      have hSS : StableSaid Lr.length := by
        have := HS.out
        rw [← hM.out, List.length_map] at this
        exact this
      have cS := hid (sortStable_any (.slice Av Lr.length cv) Lr w.heap.size wr hSS hW.out.row hW.out.b.size)
      clear hSS
      go_wp2_with fail
      refine cS.out.mono ?_
      rintro e w2 ⟨rfl, ⟨L', hst, hll, hrow⟩, hg⟩
      have HST := hid hst
      have HLL := hid hll
      have HROW := hid hrow
      have HG := hid hg
      clear hst hll hrow hg cS
      go_wp2
      go_ret
      have hb : Below w.heap.size w w2 := hW.out.b.grown HG.out hW.out.b.size (fun k e => (own_lt hW.out.row k e).1)
      have hmap : L'.map (·.1) = wantM l (lst x) := by
        have h1 : Stab (fun r : ReqD => r.p) (Lr.map (·.1)) (L'.map (·.1)) := stab_map (key := fun r : ReqD => r.p) (fun p : ReqP => p.1) HST.out
        rw [hM.out] at h1
        exact sortP_unique h1
      have hlen : (wantM l (lst x)).length = Lr.length := by rw [← hmap, List.length_map, HLL.out]
      refine ⟨⟨_, rfl, L', hmap, by rw [hlen]; exact HROW.out, fun p hp => ?_⟩, hb⟩
      have hpm : p ∈ Lr := by
        have h1 : p ∈ L'.filter (fun x => decide (keyP x = keyP p)) := List.mem_filter.2 ⟨hp, by simp⟩
        rw [HST.out.1 (keyP p)] at h1
        exact (List.mem_filter.1 h1).1
      exact ((hW.out.ins p hpm).kept (fun k hk => HG.out.block k hk.2.1 hk.2.2)).mono (fun k hk => ⟨hk.1, Nat.lt_of_lt_of_le hk.2.1 HG.out.size⟩)
end Go.Proofs.YtdpfpkhbcdefmaaGreatDoor.S12

set_option linter.unusedVariables false
namespace Go.Proofs.YtdpfpkhbcdefmaaGreatDoor
open Go Go.Proofs Go.RowKit Go.Lib

/-- The fields of a record that stands without quotes: each with the column at which it begins. -/
def colsM : Int → List Str → List FieldD
  | _, [] => []
  | c, s :: r => (s, c, false) :: colsM (c + ((s.length : Int) + 1)) r
def colAt : Int → List Str → Int
  | c, [] => c
  | c, s :: r => colAt (c + ((s.length : Int) + 1)) r
theorem colsM_app : ∀ (c : Int) (a b : List Str), colsM c (a ++ b) = colsM c a ++ colsM (colAt c a) b
  | c, [], b => rfl
  | c, s :: r, b => by simp [colsM, colAt, colsM_app _ r b]
theorem colAt_snoc : ∀ (c : Int) (a : List Str) (s : Str), colAt c (a ++ [s]) = colAt c a + ((s.length : Int) + 1)
  | c, [], s => rfl
  | c, t :: r, s => by simp [colAt, colAt_snoc _ r s]
theorem colsM_len : ∀ (c : Int) (a : List Str), (colsM c a).length = a.length
  | c, [] => rfl
  | c, s :: r => by simp [colsM, colsM_len _ r]
theorem colAt_range : ∀ (c : Int) (a : List Str), (∀ s ∈ a, s.length ≤ 1000000) → c ≤ colAt c a ∧ colAt c a ≤ c + a.length * 1000001
  | c, [], _ => by simp [colAt]
  | c, s :: r, h => by
    have h1 := h s (by simp)
    have h2 := colAt_range (c + ((s.length : Int) + 1)) r (fun t ht => h t (by simp [ht]))
    simp only [colAt, List.length_cons]
    omega
def plainM (l : List (List Str)) : List RecD := l.mapIdx fun i r => ((i : Int) + 1, colsM 1 r)
theorem plainM_len (l : List (List Str)) : (plainM l).length = l.length := by simp [plainM]
theorem plainM_take (l : List (List Str)) (i : Nat) (h : i < l.length) : plainM (l.take (i + 1)) = plainM (l.take i) ++ [((i : Int) + 1, colsM 1 l[i])] := by
  rw [List.take_succ_eq_append_getElem h]
  unfold plainM
  rw [List.mapIdx_append]
  congr 1
  simp [Nat.min_eq_left (Nat.le_of_lt h)]
theorem infoField : (Tryz.prog.info? 99).map (fun i => (i.zero, i.size, i.bytes)) = some (some (.agg #[.string ⟨#[]⟩, .int .i64 0, .bool false]), 3, 32) := by kernel_rfl
theorem infoRec : (Tryz.prog.info? 26).map (fun i => (i.zero, i.size, i.bytes)) = some (some (.agg #[.int .i64 0, .slice none 0 0]), 2, 32) := by kernel_rfl
def fieldVals (l : List FieldD) : List Value := l.flatMap fieldVs
theorem fieldVals_app (a b : List FieldD) : fieldVals (a ++ b) = fieldVals a ++ fieldVals b := by simp [fieldVals]
theorem fieldVals_get : ∀ (l : List FieldD) (j : Nat) (t : FieldD), l[j]? = some t → ∀ (i : Nat) (v : Value), (fieldVs t)[i]? = some v → (fieldVals l)[j * 3 + i]? = some v
  | [], j, t, h, _, _, _ => by simp at h
  | a :: r, 0, t, h, i, v, hv => by
    simp at h
    subst h
    have hi : i < 3 := (List.getElem?_eq_some_iff.1 hv).1
    unfold fieldVals
    rw [List.flatMap_cons, List.getElem?_append_left (by show _ < 3; omega)]
    simpa using hv
  | a :: r, j + 1, t, h, i, v, hv => by
    have := fieldVals_get r j t (by simpa using h) i v hv
    unfold fieldVals at this ⊢
    rw [List.flatMap_cons, List.getElem?_append_right (by show 3 ≤ _; omega)]
    show (List.flatMap fieldVs r)[(j + 1) * 3 + i - 3]? = _
    rw [show (j + 1) * 3 + i - 3 = j * 3 + i by omega]
    exact this
def FieldRow (w : World) (B : Nat) (v : Value) (l : List FieldD) : Prop := w.ownsRow B 99 3 v l.length (fieldVals l)
theorem FieldRow.fieldsIn {w : World} {B : Nat} {v : Value} {l : List FieldD} (h : FieldRow w B v l) : ∃ A c, v = .slice A l.length c ∧ l.length ≤ c ∧ c ≤ 9223372036854775807 ∧ FieldsIn w (fun b => v.ownBlock = some b) A l := by
  have h' := h
  rcases h.2 with ⟨hv, h0⟩ | ⟨g, cap, cur, hv, hB, hg, h1, h2, _⟩
  · have hl : l = [] := List.eq_nil_of_length_eq_zero h0
    subst hl
    exact ⟨none, 0, hv, Nat.le_refl _, by omega, .inl rfl⟩
  · refine ⟨_, cap, hv, h1, by unfold maxLen at h2; omega, .inr ⟨g, 0, rfl, by rw [hv]; rfl, fun j t hj i v' hv' => ?_⟩⟩
    have := World.ownsRow.cells h' (g := g) (by rw [hv]; rfl) (j * 3 + i) v' (fieldVals_get l j t hj i v' hv')
    rw [Addr.add_lit] at this
    rw [← Nat.add_assoc] at this
    exact this
abbrev RecA := RecD × (Option Addr × Nat)
def recVs (p : RecA) : List Value := [.int .i64 p.1.1, .slice p.2.1 p.1.2.length p.2.2]
def recVals (l : List RecA) : List Value := l.flatMap recVs
theorem recVals_app (a b : List RecA) : recVals (a ++ b) = recVals a ++ recVals b := by simp [recVals]
theorem recVals_get : ∀ (l : List RecA) (j : Nat) (t : RecA), l[j]? = some t → ∀ (i : Nat) (v : Value), (recVs t)[i]? = some v → (recVals l)[j * 2 + i]? = some v
  | [], j, t, h, _, _, _ => by simp at h
  | a :: r, 0, t, h, i, v, hv => by
    simp at h
    subst h
    have hi : i < 2 := (List.getElem?_eq_some_iff.1 hv).1
    unfold recVals
    rw [List.flatMap_cons, List.getElem?_append_left (by show _ < 2; omega)]
    simpa using hv
  | a :: r, j + 1, t, h, i, v, hv => by
    have := recVals_get r j t (by simpa using h) i v hv
    unfold recVals at this ⊢
    rw [List.flatMap_cons, List.getElem?_append_right (by show 2 ≤ _; omega)]
    show (List.flatMap recVs r)[(j + 1) * 2 + i - 2]? = _
    rw [show (j + 1) * 2 + i - 2 = j * 2 + i by omega]
    exact this
/-- A slice of records that the call owns; what they lead to lies in the call's own blocks, and not in the slice's. -/
def RecRow (w : World) (B : Nat) (v : Value) (l : List RecD) : Prop := ∃ L : List RecA, L.map (·.1) = l ∧ w.ownsRow B 26 2 v L.length (recVals L) ∧
  ∀ p ∈ L, FieldsIn w (fun b => B ≤ b ∧ b < w.heap.size ∧ v.ownBlock ≠ some b) p.2.1 p.1.2 ∧ p.1.2.length ≤ p.2.2 ∧ p.2.2 ≤ 9223372036854775807
theorem RecRow.recsIn {w : World} {B : Nat} {v : Value} {l : List RecD} (h : RecRow w B v l) : ∃ A c, v = .slice A l.length c ∧ l.length ≤ c ∧ c ≤ 9223372036854775807 ∧ RecsIn w (fun b => B ≤ b ∧ b < w.heap.size) A l := by
  obtain ⟨L, rfl, h, hL⟩ := h
  have h' := h
  have hn : (L.map (·.1)).length = L.length := List.length_map _
  rcases h.2 with ⟨hv, h0⟩ | ⟨g, cap, cur, hv, hB, hg, h1, h2, _⟩
  · have hl : L = [] := List.eq_nil_of_length_eq_zero h0
    subst hl
    exact ⟨none, 0, by rw [hv]; rfl, Nat.le_refl _, by omega, .inl rfl⟩
  · refine ⟨_, cap, by rw [hn]; exact hv, by rw [hn]; exact h1, by unfold maxLen at h2; omega, .inr ⟨g, 0, rfl, ⟨hB, (Array.getElem?_eq_some_iff.1 hg).1⟩, fun j r hj => ?_⟩⟩
    rw [List.getElem?_map] at hj
    obtain ⟨p, hp, rfl⟩ := Option.map_eq_some_iff.1 hj
    obtain ⟨f1, f2, f3⟩ := hL p (List.mem_of_getElem? hp)
    refine ⟨p.2.1, p.2.2, f1.mono (fun b hb => ⟨hb.1, hb.2.1⟩), f2, f3, ?_, ?_⟩
    · have := World.ownsRow.cells h' (g := g) (by rw [hv]; rfl) (j * 2 + 0) _ (recVals_get L j p hp 0 _ rfl)
      rw [Addr.add_lit] at this
      rw [← Nat.add_assoc] at this
      exact this
    · have := World.ownsRow.cells h' (g := g) (by rw [hv]; rfl) (j * 2 + 1) _ (recVals_get L j p hp 1 _ rfl)
      rw [Addr.add_lit] at this
      rw [← Nat.add_assoc] at this
      exact this
end Go.Proofs.YtdpfpkhbcdefmaaGreatDoor

set_option linter.unusedVariables false
namespace Go.Proofs.YtdpfpkhbcdefmaaGreatDoor
open Go Go.Proofs Go.RowKit Go.Lib

theorem castL_get (l : List Nat) (j : Nat) (v : Nat) (h : l[j]? = some v) : (castL l)[j]? = some (v : Int) := by
  unfold castL
  rw [List.getElem?_map, h]
  rfl
theorem IntsIn.cell {w : World} {B : Nat} {A : Option Addr} {l : List Nat} (h : IntsIn w B A (castL l)) (hne : l ≠ []) : ∃ b off, A = some ⟨b, off, none⟩ ∧ ∀ j v, l[j]? = some v → w.cell? ⟨b, off + j, none⟩ = some (.int .i64 ((v : Nat) : Int)) := by
  rcases h with h | ⟨b, off, hA, hB, hc⟩
  · exact absurd (by unfold castL at h; simpa using h) hne
  · exact ⟨b, off, hA, fun j v hv => hc j _ (castL_get l j v hv)⟩

end Go.Proofs.YtdpfpkhbcdefmaaGreatDoor

set_option linter.unusedVariables false
namespace Go.Proofs.YtdpfpkhbcdefmaaGreatDoor
open Go Go.Proofs Go.RowKit Go.Lib

theorem K1.drew {w0 w : World} {a b c d : Int} (h : K1 w0 a b c d w) : K1 w0 a b c d w.drew := h.next (Below.refl _ w).drew
theorem K1.first (w : World) (a b c d : Int) (t : TypeId) : K1 w a b c d (w.alloc (.cells #[.int .i64 a, .int .i64 b, .int .i64 c, .int .i64 d] t)) := ⟨Box4.new w a b c d t, (Below.refl _ w).alloc (Nat.le_refl _) _⟩
/-- Two boxes. -/
structure K2 (w0 : World) (a b c d a' b' c' d' : Int) (w : World) : Prop where
  x : Box4 w w0.heap.size a b c d
  y : Box4 w (w0.heap.size + 1) a' b' c' d'
  b : Below w0.heap.size w0 w
section
variable {w0 w w' : World} {a b c d a' b' c' d' : Int}
theorem K2.next (h : K2 w0 a b c d a' b' c' d' w) (k : Below w.heap.size w w') : K2 w0 a b c d a' b' c' d' w' := ⟨h.x.next k h.x.lt, h.y.next k h.y.lt, h.b.trans (k.mono h.b.size)⟩
theorem K2.drew (h : K2 w0 a b c d a' b' c' d' w) : K2 w0 a b c d a' b' c' d' w.drew := h.next (Below.refl _ w).drew
end
theorem K2.first (w : World) (a b c d a' b' c' d' : Int) (t t' : TypeId) : K2 w a b c d a' b' c' d' ((w.alloc (.cells #[.int .i64 a, .int .i64 b, .int .i64 c, .int .i64 d] t)).alloc (.cells #[.int .i64 a', .int .i64 b', .int .i64 c', .int .i64 d'] t')) := by
  have h1 := K1.first w a b c d t
  have hs : (w.alloc (.cells #[.int .i64 a, .int .i64 b, .int .i64 c, .int .i64 d] t)).heap.size = w.heap.size + 1 := by simp
  generalize w.alloc (.cells #[.int .i64 a, .int .i64 b, .int .i64 c, .int .i64 d] t) = w1 at h1 hs ⊢
  have h2 := Box4.new w1 a' b' c' d' t'
  have k : Below w1.heap.size w1 (w1.alloc (.cells #[.int .i64 a', .int .i64 b', .int .i64 c', .int .i64 d'] t')) := (Below.refl _ w1).alloc (Nat.le_refl _) _
  rw [hs] at h2
  exact ⟨h1.x.next k h1.x.lt, h2, h1.b.trans (k.mono h1.b.size)⟩

end Go.Proofs.YtdpfpkhbcdefmaaGreatDoor

set_option linter.unusedVariables false
namespace Go.Proofs.YtdpfpkhbcdefmaaGreatDoor
open Go Go.Proofs Go.RowKit Go.Lib

theorem itoa4_any (n : Int) (h0 : 0 ≤ n) (h1 : n ≤ 9999) (w : World) (hE : S3.Env w) : Calls Tryz.prog 59 #[.int .i64 n] w (Says (.string (ba (decDigits n.toNat))) w) := by
  refine (Tryz.strconv_Itoa n (by omega) (by omega) w hE.tab).mono ?_
  rintro e w' ⟨rfl, k, os, rfl⟩
  refine ⟨?_, ?_⟩
  · rw [show Lib.itoa n = decDigits n.toNat from if_neg (by omega)]
    rfl
  · exact Lib.below_grow _ _ (Nat.le_refl _) _ _
end Go.Proofs.YtdpfpkhbcdefmaaGreatDoor

set_option linter.unusedVariables false
set_option maxRecDepth 100000
namespace Go.Proofs.YtdpfpkhbcdefmaaGreatDoor.S12
open Go Go.Proofs Go.RowKit Go.Lib Go.Proofs.YtdpfpkhbcdefmaaGreatDoor Go.Proofs.YtdpfpkhbcdefmaaGreatDoor.S10 Go.Proofs.YtdpfpkhbcdefmaaGreatDoor.S11

theorem colsM_memQ : ∀ (c : Int) (l : List Str) (f : FieldD), f ∈ colsM c l → f.1 ∈ l
  | c, [], f, h => by simp [colsM] at h
  | c, s :: r, f, h => by
    simp only [colsM, List.mem_cons] at h
    rcases h with rfl | h
    · simp
    · exact List.mem_cons_of_mem _ (colsM_memQ _ r f h)
theorem plainM_memQ {l : List (List Str)} {x : RecD} (h : x ∈ plainM l) : ∀ f ∈ x.2, ∃ r ∈ l, f.1 ∈ r := by
  unfold plainM at h
  obtain ⟨i, hi, rfl⟩ := List.mem_mapIdx.1 h
  exact fun f hf => ⟨l[i], List.getElem_mem hi, colsM_memQ _ _ f hf⟩

/-! ### what holds of made requests -/
theorem acc_ok {pre : List ReqD} {r : ReqD} (h : (r.s, r.c) ∉ wishes pre) (hl : pre.length < 64) : accM pre r = 0 := by
  have := studs_len pre
  unfold accM
  rw [if_neg (fun k => by omega), if_neg h, if_neg (by omega)]
theorem wish_new {pre l : List ReqD} {r : ReqD} (h : (wishes (pre ++ r :: l)).Nodup) : (r.s, r.c) ∉ wishes pre := by
  unfold wishes at h ⊢
  rw [List.map_append, List.nodup_append] at h
  intro hm
  exact h.2.2 _ hm _ (by simp) rfl
theorem goQ_made : ∀ (l pre : List ReqD), (wishes (pre ++ l)).Nodup → (pre ++ l).length ≤ 60 → (∀ r ∈ l, reqM r = 0) → goQ pre l = 0
  | [], _, _, _, _ => rfl
  | r :: l, pre, h, hl, hr => by
    have h1 := acc_ok (wish_new h) (by simp at hl; omega)
    have h2 := hr r (by simp)
    unfold goQ
    rw [if_neg (by simp [h2]), if_neg (by simp [h1])]
    exact goQ_made l (pre ++ [r]) (by rw [List.append_assoc]; exact h) (by rw [List.append_assoc]; exact hl) (fun x hx => hr x (by simp [hx]))
theorem pri_digits {p : Int} (h1 : 1 ≤ p) (h2 : p ≤ 9) : priM (decDigits p.toNat) = (p, 0) := by
  rcases (show p = 1 ∨ p = 2 ∨ p = 3 ∨ p = 4 ∨ p = 5 ∨ p = 6 ∨ p = 7 ∨ p = 8 ∨ p = 9 by omega) with rfl | rfl | rfl | rfl | rfl | rfl | rfl | rfl | rfl <;> decide +kernel
theorem few_join {l : List Str} (h : S3.checkM l = 0) (h8 : l.length ≤ 8) : fewM (S3.joinM l) = (l, 0) := by
  unfold fewM
  rw [S3.list_join l h]
  rw [if_neg (by simp), if_neg (by simp; omega)]
theorem entry_rowQ {x : ReqD} (h : reqM x = 0) (i : Int) : entryM (colsM i (rowQ x)) = (x, 0, 0) := by
  obtain ⟨h1, h2, h3, h4, h5, h6⟩ := reqM_all h
  obtain ⟨h7, h8⟩ := check_tail h6
  have e1 := pri_digits h3 h4
  have e2 := few_join h7 h5
  have e3 : insteadM (S3.joinM x.l) x.c = (x.l, 0) := by
    unfold insteadM
    rw [e2, if_neg (by simp), if_neg h8]
  obtain ⟨s, c, p, l⟩ := x
  dsimp only at h1 h2 e1 e3
  unfold entryM rowQ
  simp [colsM, efold, setF, zeroR, h1, h2, e1, e3]
theorem recM_rowQ {x : ReqD} (h : reqM x = 0) (l : List ReqD) (bad : List ProbD) (i j : Int) (ha : accM l x = 0) : recM (l, bad) (i, colsM j (rowQ x)) = (l ++ [x], bad) := by
  unfold recM
  dsimp only
  rw [entry_rowQ h]
  dsimp only
  rw [if_neg (by simp), if_neg (by simp [ha])]
theorem fold_rowQ : ∀ (l pre : List ReqD) (f : Nat → List Str → RecD), (∀ i r, ∃ a b, f i r = (a, colsM b r)) → (wishes (pre ++ l)).Nodup → (pre ++ l).length ≤ 60 → (∀ r ∈ l, reqM r = 0) → ((l.map rowQ).mapIdx f).foldl recM (pre, []) = (pre ++ l, [])
  | [], pre, f, _, _, _, _ => by simp
  | r :: l, pre, f, hf, h, hl, hr => by
    have h1 := acc_ok (wish_new h) (by simp at hl; omega)
    obtain ⟨a, b, e⟩ := hf 0 (rowQ r)
    rw [List.map_cons, List.mapIdx_cons, List.foldl_cons, e, recM_rowQ (hr r (by simp)) _ _ _ _ h1]
    rw [fold_rowQ l (pre ++ [r]) (fun i => f (i + 1)) (fun i r => hf (i + 1) r) (by rw [List.append_assoc]; exact h) (by rw [List.append_assoc]; exact hl) (fun x hx => hr x (by simp [hx]))]
    rw [List.append_assoc]
    rfl
theorem recs_rowQ {l : List ReqD} (h : (wishes l).Nodup) (hl : l.length ≤ 60) (hr : ∀ r ∈ l, reqM r = 0) : recsM (plainM (l.map rowQ)) = (l, []) := by
  unfold recsM plainM
  exact fold_rowQ l [] _ (fun i r => ⟨_, _, rfl⟩) h hl hr
def Three (names : List Str) : Prop := names.Nodup ∧ ∀ s ∈ names, s = courseS 0 ∨ s = courseS 1 ∨ s = courseS 2
theorem Three.len : ∀ {names : List Str}, Three names → names.length ≤ 3
  | [], _ => by simp
  | [a], _ => by simp
  | [a, b], _ => by simp
  | [a, b, c], _ => by simp
  | a :: b :: c :: d :: r, ⟨h, hm⟩ => by
    exfalso
    rcases hm a (by simp) with rfl | rfl | rfl <;> rcases hm b (by simp) with rfl | rfl | rfl <;> rcases hm c (by simp) with rfl | rfl | rfl <;> rcases hm d (by simp) with rfl | rfl | rfl <;> simp at h
theorem three_of {d s : Int} {n : Nat} {nm : List Str} {cls : List ClassD} (hc : ClassesOk d s n nm cls) : Three (coursesOf cls) := by
  have hgo := coursesOf_go cls [] (by simp)
  refine ⟨hgo.1, fun s hs => ?_⟩
  rcases hgo.2.2 s hs with h | ⟨y, hy, rfl⟩
  · simp at h
  · obtain ⟨i, hi, rfl⟩ := List.mem_iff_getElem.1 hy
    obtain ⟨k, hk, e⟩ := (hc.at_ i _ (List.getElem?_eq_getElem hi)).course
    rw [e]
    rcases (show k = 0 ∨ k = 1 ∨ k = 2 by omega) with rfl | rfl | rfl
    · exact .inl rfl
    · exact .inr (.inl rfl)
    · exact .inr (.inr rfl)
theorem made_one {names : List Str} (hn : Three names) {s i : Nat} {x : ReqD} (h : OneQ names s i x) (h1 : 1 ≤ s) (h5 : s ≤ 5) : reqM x = 0 ∧ (∀ y ∈ rowQ x, y.length ≤ 20) ∧ x.l.length ≤ 1 := by
  have hs : S3.validC x.s = true ∧ x.s.length = 2 := by
    rw [h.s]
    rcases (show s = 1 ∨ s = 2 ∨ s = 3 ∨ s = 4 ∨ s = 5 by omega) with rfl | rfl | rfl | rfl | rfl <;> decide +kernel
  have hc := hn.2 x.c (List.mem_of_getElem? h.c)
  have hcv : S3.validC x.c = true ∧ x.c.length ≤ 3 := by rcases hc with e | e | e <;> rw [e] <;> decide +kernel
  have hck : S3.checkM (x.c :: x.l) = 0 ∧ x.l.length ≤ 1 ∧ (S3.joinM x.l).length ≤ 20 := by
    rcases h.l with e | ⟨k, t, hk, ht, e⟩
    · rw [e]
      rcases hc with e | e | e <;> rw [e] <;> decide +kernel
    · rw [e]
      have htc := hn.2 t (List.mem_of_getElem? ht)
      have hne : x.c ≠ t := by
        intro e
        obtain ⟨q1, q2⟩ := List.getElem?_eq_some_iff.1 h.c
        obtain ⟨q3, q4⟩ := List.getElem?_eq_some_iff.1 ht
        rcases Nat.lt_or_gt_of_ne hk with hlt | hlt
        · exact List.pairwise_iff_getElem.1 hn.1 k i q3 q1 hlt (by rw [q2, q4, e])
        · exact List.pairwise_iff_getElem.1 hn.1 i k q1 q3 hlt (by rw [q2, q4, e])
      rcases hc with e1 | e1 | e1 <;> rcases htc with e2 | e2 | e2 <;> rw [e1, e2] at hne <;> rw [e1, e2] <;> first | decide +kernel | exact absurd rfl hne
  have hp : (decDigits x.p.toNat).length = 1 := by
    have h1 := h.p.1
    have h2 := h.p.2
    generalize x.p = p at h1 h2
    rcases (show p = 1 ∨ p = 2 ∨ p = 3 ∨ p = 4 ∨ p = 5 ∨ p = 6 ∨ p = 7 ∨ p = 8 ∨ p = 9 by omega) with rfl | rfl | rfl | rfl | rfl | rfl | rfl | rfl | rfl <;> decide +kernel
  refine ⟨reqM_of hs.1 hcv.1 h.p.1 h.p.2 (by omega) hck.1, fun y hy => ?_, hck.2.1⟩
  simp only [rowQ, List.mem_cons, List.not_mem_nil, or_false] at hy
  rcases hy with rfl | rfl | rfl | rfl <;> omega
theorem reqs_back {names : List Str} (hn : Three names) {ls : List ReqD} (h : MadeQ names 0 0 ls) :
    validQ ls = 0 ∧ recsM (plainM (ls.map rowQ)) = (ls, []) ∧ (∀ r ∈ ls.map rowQ, r.length = 4 ∧ ∀ x ∈ r, x.length ≤ 20) ∧ ls.length ≤ 15 ∧ ∀ r ∈ ls, r.s.length ≤ 20 ∧ r.l.length ≤ 1 := by
  have h3 := hn.len
  have hl := h.len
  have hl : ls.length ≤ 15 := by
    have : (5 - 0) * names.length ≤ 5 * 3 := Nat.mul_le_mul (Nat.le_refl _) h3
    omega
  have hm : ∀ r ∈ ls, reqM r = 0 ∧ (∀ y ∈ rowQ r, y.length ≤ 20) ∧ r.l.length ≤ 1 := fun r hr => by
    obtain ⟨s', i', k1, k2, k3, k4⟩ := h.all r hr
    exact made_one hn k1 k2 k3
  refine ⟨?_, recs_rowQ h.nd (by omega) (fun r hr => (hm r hr).1), fun r hr => ?_, hl, fun r hr => ⟨(hm r hr).2.1 r.s (by simp [rowQ]), (hm r hr).2.2⟩⟩
  · unfold validQ
    rw [if_neg (by omega)]
    exact goQ_made ls [] h.nd (by simp; omega) (fun r hr => (hm r hr).1)
  · obtain ⟨x, hx, rfl⟩ := List.mem_map.1 hr
    exact ⟨rfl, (hm x hx).2.1⟩

/-! ### what the students want -/
theorem insP_len {α : Type} (key : α → Int) (x : α) : ∀ l : List α, (insP key x l).length = l.length + 1
  | [] => rfl
  | y :: l => by
    unfold insP
    split <;> simp [insP_len key x l]
theorem sortP_len {α : Type} (key : α → Int) (l : List α) : (sortP key l).length = l.length := by
  unfold sortP
  have : ∀ (l a : List α), (l.foldl (fun a x => insP key x a) a).length = a.length + l.length := by
    intro l
    induction l with
    | nil => simp
    | cons x r ih => intro a; rw [List.foldl_cons, ih, insP_len]; simp; omega
  simpa using this l []
theorem wantM_len (l : List ReqD) (s : Str) : (wantM l s).length = (wantF l s).length := sortP_len _ _
theorem wantM_mem {l : List ReqD} {s : Str} {r : ReqD} (h : r ∈ wantM l s) : r.s = s := by
  have hst := sortP_stab (key := fun r : ReqD => r.p) (wantF l s)
  have h1 : r ∈ (wantM l s).filter (fun x => decide (x.p = r.p)) := List.mem_filter.2 ⟨h, by simp⟩
  have e : (wantM l s).filter (fun x => decide (x.p = r.p)) = (wantF l s).filter (fun x => decide (x.p = r.p)) := hst.1 r.p
  rw [e] at h1
  have h2 := (List.mem_filter.1 h1).1
  unfold wantF at h2
  exact of_decide_eq_true (List.mem_filter.1 h2).2
theorem wantM_sorted (l : List ReqD) (s : Str) {k : Nat} (h1 : k + 1 < (wantM l s).length) : (wantM l s)[k].p ≤ (wantM l s)[k + 1].p := by
  have h : (wantM l s).Pairwise (fun a b => a.p ≤ b.p) := (sortP_stab (key := fun r : ReqD => r.p) (wantF l s)).2
  exact List.pairwise_iff_getElem.1 h k (k + 1) (by omega) h1 (by omega)
def cntQ (S : List Str) (l : List ReqD) : Nat := (S.map fun s => (wantF l s).length).sum
theorem cnt_snoc (S : List Str) (s : Str) (l : List ReqD) : cntQ (S ++ [s]) l = cntQ S l + (wantF l s).length := by unfold cntQ; rw [List.map_append, List.sum_append]; simp
theorem cnt_one : ∀ (S : List Str) (l : List ReqD) (r : ReqD), S.Nodup → cntQ S (r :: l) = cntQ S l + (if r.s ∈ S then 1 else 0)
  | [], l, r, _ => by simp [cntQ]
  | s :: S, l, r, h => by
    obtain ⟨h1, h2⟩ := List.nodup_cons.1 h
    have ih := cnt_one S l r h2
    have e : ∀ (T : List Str) (l : List ReqD), cntQ (s :: T) l = (wantF l s).length + cntQ T l := fun T l => by unfold cntQ; rw [List.map_cons, List.sum_cons]
    rw [e, e, ih]
    by_cases hs : r.s = s
    · have hn : r.s ∉ S := hs ▸ h1
      have e1 : wantF (r :: l) s = r :: wantF l s := by unfold wantF; rw [List.filter_cons_of_pos (by simpa using hs)]
      rw [e1, if_neg hn, if_pos (by simp [hs]), List.length_cons]
      omega
    · have e1 : wantF (r :: l) s = wantF l s := by unfold wantF; rw [List.filter_cons_of_neg (by simpa using hs)]
      rw [e1]
      by_cases hm : r.s ∈ S
      · rw [if_pos hm, if_pos (by simp [hm])]; omega
      · rw [if_neg hm, if_neg (by simp [hm, hs])]; omega
theorem cnt_nil : ∀ S : List Str, cntQ S [] = 0
  | [] => rfl
  | s :: S => by
    have := cnt_nil S
    unfold cntQ at this ⊢
    rw [List.map_cons, List.sum_cons, this]
    rfl
theorem cnt_all (S : List Str) (hS : S.Nodup) : ∀ l : List ReqD, (∀ r ∈ l, r.s ∈ S) → cntQ S l = l.length
  | [], _ => cnt_nil S
  | r :: l, h => by
    rw [cnt_one S l r hS, cnt_all S hS l (fun x hx => h x (by simp [hx])), if_pos (h r (by simp)), List.length_cons]
theorem studM_nodup (l : List ReqD) : (studM l).Nodup := (studM_perm l).nodup_iff.2 (studs_nodup l)
theorem mem_studM (l : List ReqD) (t : Str) : t ∈ studM l ↔ ∃ r ∈ l, r.s = t := by rw [(studM_perm l).mem_iff, mem_studs]
theorem cnt_studM (l : List ReqD) : cntQ (studM l) l = l.length := cnt_all _ (studM_nodup l) l (fun r hr => (mem_studM l r.s).2 ⟨r, hr, rfl⟩)
theorem studM_less (l : List ReqD) {i : Nat} (h : i + 1 < (studM l).length) : S3.cmpM (studM l)[i] (studM l)[i + 1] < 0 := by
  have h1 : leS (studM l)[i] (studM l)[i + 1] = true := List.pairwise_iff_getElem.1 (studM_sorted l) i (i + 1) (by omega) h (by omega)
  have h2 : S3.cmpM (studM l)[i] (studM l)[i + 1] ≤ 0 := of_decide_eq_true h1
  have h3 : (studM l)[i] ≠ (studM l)[i + 1] := List.pairwise_iff_getElem.1 (studM_nodup l) i (i + 1) (by omega) h (by omega)
  have h4 : S3.cmpM (studM l)[i] (studM l)[i + 1] ≠ 0 := fun e => h3 ((S3.cmpM_zero _ _).1 e)
  omega
theorem studM_len (l : List ReqD) : (studM l).length ≤ l.length := by rw [(studM_perm l).length_eq]; exact studs_len l
end Go.Proofs.YtdpfpkhbcdefmaaGreatDoor.S12

set_option linter.unusedVariables false
namespace Go.Proofs.YtdpfpkhbcdefmaaGreatDoor.S12
open Go Go.Proofs Go.RowKit Go.Lib Go.Proofs.YtdpfpkhbcdefmaaGreatDoor

set_option maxHeartbeats 8000000 in
set_option maxRecDepth 100000 in
theorem qsame_any (A A' : Option Addr) (l : List ReqD) (c c' : Nat) (P P' : Nat → Prop) (w : World) (h : ReqsIn w P A l) (h' : ReqsIn w P' A' l) (hl : l.length ≤ 9223372036854775807) :
    Calls Tryz.prog 15 #[.slice A l.length c, .slice A' l.length c'] w fun e w' => e = .returned (.bool true) ∧ ∃ q, w' = w.drewN q := by
  have H := hid h
  have H' := hid h'
  clear h h'
  go_enter Tryz.func15, Tryz.ntmps15
  go_wp2
  go_loopw [5] (fun i wr => ∃ k : Nat, i = .int .i64 (k : Int) ∧ k ≤ l.length ∧ Hid (∃ q, wr = w.drewN q)) (fun i _ => l.length - (RowKit.intOf i).toNat)
  case atStart => exact ⟨0, rfl, Nat.zero_le _, hid ⟨0, rfl⟩⟩
  case round =>
    obtain ⟨k, rfl, hk, HQ⟩ := hrel
    by_cases hlt : k < l.length
    · have hltz : (k : Int) < (l.length : Int) := by omega
      have hst : ∀ j, wr.heap[j]? = w.heap[j]? := fun j => by obtain ⟨q, hq⟩ := HQ.out; rw [hq, S3.drewN_heap]
      obtain ⟨b1, o1, ⟨fa1, fc1⟩, rfl, _, hr1, a0, a1, a2, a3⟩ := (H.out.kept (w' := wr) (fun b _ => hst b)).at_ hlt
      obtain ⟨b2, o2, ⟨fa2, fc2⟩, rfl, _, hr2, e0, e1, e2, e3⟩ := (H'.out.kept (w' := wr) (fun b _ => hst b)).at_ hlt
      have cS := fun q => S3.sameStrings_any fa1 fa2 l[k].l l[k].l fc1 fc2 _ _ (wr.drewN q) (hr1.t.kept (fun b _ => by rw [S3.drewN_heap])) (hr2.t.kept (fun b _ => by rw [S3.drewN_heap])) (Nat.le_trans hr1.t1 hr1.t2)
      simp only [decide_true] at cS
      obtain ⟨⟨sd, cd, pd, fs⟩, ht⟩ : ∃ t, l[k] = t := ⟨_, rfl⟩
      rw [ht] at a0 a1 a2 a3 e0 e1 e2 e3
      simp only [ht] at cS
      dsimp only at a0 a1 a2 a3 e0 e1 e2 e3
      obtain ⟨F, hF⟩ : ∃ F, fs.length = F := ⟨_, rfl⟩
      rw [hF] at a3 e3
      simp only [hF] at cS
      obtain ⟨C, hC⟩ : ∃ C, ba cd = C := ⟨_, rfl⟩
      rw [hC] at a1 e1
      obtain ⟨D, hD⟩ : ∃ D, ba sd = D := ⟨_, rfl⟩
      rw [hD] at a0 e0
      have d1 : decide (l.length ≤ k) = false := decide_eq_false (by omega)
      have CS := hid cS
      clear ht hr1 hr2 hF hC hD cS hst
      go_wp2
      go_quiet ((go_at_call 17; with_reducible refine Calls.quiet_of (CS.out _)))
      go_wp2
      go_roundw
      case rel => exact ⟨k + 1, by go_num, by omega, hid (by obtain ⟨q, hq⟩ := HQ.out; exact ⟨q + nq, by rw [hq, World.drewN_drewN]⟩)⟩
      case measure => simp [RowKit.intOf]; omega
    · have hltz : ¬ (k : Int) < (l.length : Int) := by omega
      go_wp2
      go_ret
      exact ⟨rfl, HQ.out⟩
end Go.Proofs.YtdpfpkhbcdefmaaGreatDoor.S12

set_option linter.unusedVariables false
namespace Go.Proofs.YtdpfpkhbcdefmaaGreatDoor.S12
open Go Go.Proofs Go.RowKit Go.Lib Go.Proofs.YtdpfpkhbcdefmaaGreatDoor

/-- What a call that reads field i of the curriculum in block R leaves behind. -/
def FieldOut (i : Nat) (x : Str) (r : ReqD) (R : Nat) (w : World) (e : Ending) (w' : World) : Prop :=
  e = .returned (.int .i64 (setF i x r).2) ∧ (∃ q : ReqA, Box4 w' R (.string (ba (setF i x r).1.s)) (.string (ba (setF i x r).1.c)) (.int .i64 (setF i x r).1.p) (.slice q.1 (setF i x r).1.l.length q.2) ∧ ReqIn w' (fun k => R < k ∧ k < w'.heap.size) (setF i x r).1 q) ∧ w.grownBy w' (some R)
/-- What a call that reads an entry leaves behind. -/
def EntryOut (o : ReqD × Int × Int) (w : World) (e : Ending) (w' : World) : Prop :=
  (∃ q, e = .returned (.tuple #[reqV o.1 q, .int .i64 o.2.1, .int .i64 o.2.2]) ∧ ReqIn w' (fun k => w.heap.size ≤ k ∧ k < w'.heap.size) o.1 q) ∧ Below w.heap.size w w'
theorem load4 {w : World} {k : Nat} {v0 v1 v2 v3 : Value} (h : w.cell? ⟨k, 0, none⟩ = some v0 ∧ w.cell? ⟨k, 1, none⟩ = some v1 ∧ w.cell? ⟨k, 2, none⟩ = some v2 ∧ w.cell? ⟨k, 3, none⟩ = some v3) : (loadVar 61 ⟨k, 0, none⟩).run Tryz.prog w = .ok (.agg #[v0, v1, v2, v3]) w := by
  obtain ⟨h0, h1, h2, h3⟩ := h
  simp [loadVar, go_sem, h0, h1, h2, h3]
theorem Box4.put0 {w : World} {B : Nat} {v0 v1 v2 v3 : Value} (h : Box4 w B v0 v1 v2 v3) (u : Value) : Box4 (w.setCell ⟨B, 0, none⟩ u) B u v1 v2 v3 := ⟨by rw [heap_setCell_same w B 0 _ _ u h.h]; rfl⟩
theorem Box4.put1 {w : World} {B : Nat} {v0 v1 v2 v3 : Value} (h : Box4 w B v0 v1 v2 v3) (u : Value) : Box4 (w.setCell ⟨B, 1, none⟩ u) B v0 u v2 v3 := ⟨by rw [heap_setCell_same w B 1 _ _ u h.h]; rfl⟩
theorem Box4.put2 {w : World} {B : Nat} {v0 v1 v2 v3 : Value} (h : Box4 w B v0 v1 v2 v3) (u : Value) : Box4 (w.setCell ⟨B, 2, none⟩ u) B v0 v1 u v3 := ⟨by rw [heap_setCell_same w B 2 _ _ u h.h]; rfl⟩
theorem Box4.put3 {w : World} {B : Nat} {v0 v1 v2 v3 : Value} (h : Box4 w B v0 v1 v2 v3) (u : Value) : Box4 (w.setCell ⟨B, 3, none⟩ u) B v0 v1 v2 u := ⟨by rw [heap_setCell_same w B 3 _ _ u h.h]; rfl⟩
def set4 (w : World) (B : Nat) (u0 u1 u2 u3 : Value) : World := (((w.setCell ⟨B, 0, none⟩ u0).setCell ⟨B, 1, none⟩ u1).setCell ⟨B, 2, none⟩ u2).setCell ⟨B, 3, none⟩ u3
theorem Box4.set {w : World} {B : Nat} {v0 v1 v2 v3 : Value} (h : Box4 w B v0 v1 v2 v3) (u0 u1 u2 u3 : Value) : Box4 (set4 w B u0 u1 u2 u3) B u0 u1 u2 u3 := (((h.put0 u0).put1 u1).put2 u2).put3 u3
theorem set4_grown (w : World) (B : Nat) (u0 u1 u2 u3 : Value) : w.grownBy (set4 w B u0 u1 u2 u3) (some B) := by
  have g : ∀ (w : World) (o : Nat) (v : Value), w.grownBy (w.setCell ⟨B, o, none⟩ v) (some B) := fun w o v => ⟨by simp [World.setCell], by simp [World.setCell], by simp [World.setCell], by simp [World.setCell], fun k _ hk => Below.heap_setCell w ⟨B, o, none⟩ v k (fun e => hk (by rw [show k = B from e]))⟩
  exact (((g w 0 u0).andThen (g _ 1 u1) (fun j hj => .inr hj)).andThen (g _ 2 u2) (fun j hj => .inr hj)).andThen (g _ 3 u3) (fun j hj => .inr hj)
/-- All results stored. -/
theorem entry_end {w W : World} {a : Act} {r : ReqD} {q : ReqA} {c e : Int} {o : ReqD × Int × Int} (hp : a.tmps.getD 6 undef = .pointer (some ⟨w.heap.size, 0, none⟩)) (hc : a.tmps.getD 7 undef = .int .i64 c) (he : a.tmps.getD 8 undef = .int .i64 e) (hd : a.defers = [])
    (hx : Box4 W w.heap.size (.string (ba r.s)) (.string (ba r.c)) (.int .i64 r.p) (.slice q.1 r.l.length q.2)) (hr : ReqIn W (fun k => w.heap.size < k ∧ k < W.heap.size) r q) (hb : Below w.heap.size w W) (ho : o = (r, c, e)) :
    bodyPost Tryz.prog Tryz.f63 (EntryOut o w) Exit.ret a W := by
  subst ho
  refine bodyPost_ret (v := .tuple #[reqV r q, .int .i64 c, .int .i64 e]) (results_ctt rfl _ _ _ ⟨w.heap.size, 0, none⟩ _ _ _ hp hc he ?_) hd ⟨⟨q, rfl, hr.mono (fun k hk => ⟨Nat.le_of_lt hk.1, hk.2⟩)⟩, hb⟩
  unfold reqV
  exact load4 hx.cells
theorem four_put {w W : World} {r : ReqD} {q : ReqA} (hx : Box4 W w.heap.size (.string (ba r.s)) (.string (ba r.c)) (.int .i64 r.p) (.slice q.1 r.l.length q.2)) (hr : ReqIn W (fun k => w.heap.size < k ∧ k < W.heap.size) r q) (hb : Below w.heap.size w W) {W5 : World}
    (h5 : W5 = (((W.setCell ⟨w.heap.size, 0, none⟩ (.string (ba r.s))).setCell ⟨w.heap.size, 1, none⟩ (.string (ba r.c))).setCell ⟨w.heap.size, 2, none⟩ (.int .i64 r.p)).setCell ⟨w.heap.size, 3, none⟩ (.slice q.1 r.l.length q.2)) :
    Box4 W5 w.heap.size (.string (ba r.s)) (.string (ba r.c)) (.int .i64 r.p) (.slice q.1 r.l.length q.2) ∧ ReqIn W5 (fun k => w.heap.size < k ∧ k < W5.heap.size) r q ∧ Below w.heap.size w W5 := by
  have hx5 := Box4.set hx (.string (ba r.s)) (.string (ba r.c)) (.int .i64 r.p) (.slice q.1 r.l.length q.2)
  have hg := set4_grown W w.heap.size (.string (ba r.s)) (.string (ba r.c)) (.int .i64 r.p) (.slice q.1 r.l.length q.2)
  unfold set4 at hx5 hg
  rw [← h5] at hx5 hg
  have hs := hg.size
  have hl := hx.lt
  exact ⟨hx5, (hr.kept (fun k hk => hg.block k hk.2 (fun e => by injection e; omega))).mono (fun k hk => ⟨hk.1, by omega⟩), hb.grown hg (by omega) (fun k e => by injection e; omega)⟩
theorem ReqIn.past {W w2 : World} {R j : Nat} {v : Value} {r : ReqD} {q : ReqA} (h : ReqIn W (fun k => R < k ∧ k < W.heap.size) r q) (hb : Below W.heap.size W w2) : ReqIn (w2.setCell ⟨R, j, none⟩ v) (fun k => R < k ∧ k < (w2.setCell ⟨R, j, none⟩ v).heap.size) r q := by
  have hg := put_grown hb R j v
  have hs := hg.size
  exact (h.kept (fun k hk => hg.block k hk.2 (fun e => by injection e; omega))).mono (fun k hk => ⟨hk.1, by omega⟩)
end Go.Proofs.YtdpfpkhbcdefmaaGreatDoor.S12

set_option linter.unusedVariables false
namespace Go.Proofs.YtdpfpkhbcdefmaaGreatDoor.S12
open Go Go.Proofs Go.RowKit Go.Lib Go.Proofs.YtdpfpkhbcdefmaaGreatDoor

theorem Gr2.grown {M N : Nat} {a b c : World} {row : Option Nat} (h : Gr2 M N a b) (hg : b.grownBy c row) (hr : ∀ j, row = some j → a.heap.size ≤ j) : Gr2 M N a c :=
  ⟨hg.os.trans h.os, hg.tape.trans h.tape, hg.output.trans h.output, Nat.le_trans h.size hg.size, fun k hk h1 h2 => (hg.block k (Nat.lt_of_lt_of_le hk h.size) (fun e => by have := hr k e.symm; omega)).trans (h.block k hk h1 h2)⟩
structure EInv (cp : Cap) (w : World) (rs : List ReqD) (ps : List ProbD) (cs : List ReqD) (v1 v2 : Value) (W : World) : Prop where
  row : ∃ Lr : List (ReqD × ReqA), Lr.map (·.1) = rs ∧ W.ownsRow w.heap.size 61 4 v1 Lr.length (reqVals Lr) ∧ ∀ p ∈ Lr, ReqIn W (fun k => w.heap.size ≤ k ∧ k < W.heap.size ∧ some k ≠ v1.ownBlock ∧ some k ≠ v2.ownBlock) p.1 p.2
  probs : ProbsRow W w.heap.size v2 ps
  acc : Acc W cp cs
  gr : Gr2 cp.M cp.N w W
theorem EInv.start {cp : Cap} {w : World} (h : Acc w cp []) : EInv cp w [] [] [] (.slice none 0 0) (.slice none 0 0) w :=
  ⟨⟨[], rfl, World.ownsRow_nil _ _ _ _, fun p hp => by simp at hp⟩, World.ownsRow_nil _ _ _ _, h, Gr2.refl _ _ _⟩
theorem EInv.below {cp : Cap} {B : Nat} {w W : World} {rs : List ReqD} {ps : List ProbD} {cs : List ReqD} {v1 v2 : Value} (h : EInv cp w rs ps cs v1 v2 W) (hB : B ≤ w.heap.size) (h1 : B ≤ cp.M) (h2 : B ≤ cp.N) : Below B w W := h.gr.under hB h1 h2
section
variable {cp : Cap} {w W W' : World} {rs : List ReqD} {ps : List ProbD} {cs cs' : List ReqD} {v1 v2 : Value}
/-- A call in between, which turns nothing but the maps at most. -/
theorem EInv.past (h : EInv cp w rs ps cs v1 v2 W) (hM : cp.M < w.heap.size) (hN : cp.N < w.heap.size) (hg : Gr2 cp.M cp.N W W') (hk : Acc W' cp cs') : EInv cp w rs ps cs' v1 v2 W' := by
  obtain ⟨⟨Lr, hL, ho, hr⟩, hp, _, hb⟩ := h
  have hs := hg.size
  have hbs := hb.size
  have e1 : v1.ownBlock ≠ some cp.M := fun e => by have := (own_lt ho cp.M e).1; omega
  have e2 : v2.ownBlock ≠ some cp.M := fun e => by have := (own_lt hp cp.M e).1; omega
  have e3 : v1.ownBlock ≠ some cp.N := fun e => by have := (own_lt ho cp.N e).1; omega
  have e4 : v2.ownBlock ≠ some cp.N := fun e => by have := (own_lt hp cp.N e).1; omega
  refine ⟨⟨Lr, hL, hg.row ho e1 e3, fun p hp' => ?_⟩, hg.row hp e2 e4, hk, hb.trans hg⟩
  exact ((hr p hp').kept (fun k hk => hg.block k hk.2.1 (by omega) (by omega))).mono (fun k hk => ⟨hk.1, by omega, hk.2.2⟩)
theorem EInv.under (h : EInv cp w rs ps cs v1 v2 W) (hM : cp.M < w.heap.size) (hN : cp.N < w.heap.size) (hb : Below W.heap.size W W') : EInv cp w rs ps cs v1 v2 W' :=
  h.past hM hN (Gr2.below hb) (h.acc.below hb)
/-- One problem more. -/
theorem EInv.prob {v2' : Value} {p : ProbD} (h : EInv cp w rs ps cs v1 v2 W) (hM : cp.M < w.heap.size) (hN : cp.N < w.heap.size) (hown : ProbsRow W' w.heap.size v2' (ps ++ [p])) (hg : W.grownBy W' v2.ownBlock) (hat : v2'.ownBlock = v2.ownBlock ∨ ∃ k, v2'.ownBlock = some k ∧ W.heap.size ≤ k) : EInv cp w rs (ps ++ [p]) cs v1 v2' W' := by
  obtain ⟨⟨Lr, hL, ho, hr⟩, hp, hk, hb⟩ := h
  have hs := hg.size
  have hbs := hb.size
  have e2 : some cp.M ≠ v2.ownBlock := fun e => by have := (own_lt hp cp.M e.symm).1; omega
  have e4 : some cp.N ≠ v2.ownBlock := fun e => by have := (own_lt hp cp.N e.symm).1; omega
  refine ⟨⟨Lr, hL, World.ownsRow.kept ho hg (kinds_ne ho hp (by decide)), fun p hp' => ?_⟩, hown, ⟨hk.m.kept hg e2, hk.s.kept hg e4⟩, hb.grown hg (fun j hj => (own_lt hp j hj).1)⟩
  refine ((hr p hp').kept (fun k hk => hg.block k hk.2.1 hk.2.2.2)).mono (fun k hk => ⟨hk.1, by omega, hk.2.2.1, ?_⟩)
  rcases hat with e | ⟨j, e, hj⟩
  · rw [e]; exact hk.2.2.2
  · rw [e]; intro e0; injection e0 with e0; have := hk.2.1; omega
/-- One request more. -/
theorem EInv.room {v1' : Value} {r : ReqD} {q : ReqA} {C : Nat} (h : EInv cp w rs ps cs v1 v2 W) (hM : cp.M < w.heap.size) (hN : cp.N < w.heap.size)
    (hr' : ReqIn W (fun k => C ≤ k ∧ k < W.heap.size) r q) (hC : w.heap.size ≤ C) (h1 : ∀ k, v1.ownBlock = some k → k < C) (h2 : ∀ k, v2.ownBlock = some k → k < C)
    {Lr : List (ReqD × ReqA)} (hL : Lr.map (·.1) = rs) (ho : W.ownsRow w.heap.size 61 4 v1 Lr.length (reqVals Lr)) (hr : ∀ p ∈ Lr, ReqIn W (fun k => w.heap.size ≤ k ∧ k < W.heap.size ∧ some k ≠ v1.ownBlock ∧ some k ≠ v2.ownBlock) p.1 p.2)
    (hown : W'.ownsRow w.heap.size 61 4 v1' (Lr.length + 1) (reqVals Lr ++ reqVs r q))
    (hg : W.grownBy W' v1.ownBlock) (hat : v1'.ownBlock = v1.ownBlock ∨ ∃ k, v1'.ownBlock = some k ∧ W.heap.size ≤ k) : EInv cp w (rs ++ [r]) ps cs v1' v2 W' := by
  obtain ⟨_, hp, hk, hb⟩ := h
  have hs := hg.size
  have hbs := hb.size
  have e1 : some cp.M ≠ v1.ownBlock := fun e => by have := (own_lt ho cp.M e.symm).1; omega
  have e3 : some cp.N ≠ v1.ownBlock := fun e => by have := (own_lt ho cp.N e.symm).1; omega
  have hne : ∀ k, k < W.heap.size → some k ≠ v1.ownBlock → some k ≠ v1'.ownBlock := by
    intro k hk hne
    rcases hat with e | ⟨j, e, hj⟩
    · rw [e]; exact hne
    · rw [e]; intro e0; injection e0 with e0; omega
  refine ⟨⟨Lr ++ [(r, q)], by rw [List.map_append, hL]; rfl, ?_, fun p hp' => ?_⟩, World.ownsRow.kept hp hg (kinds_ne hp ho (by decide)), ⟨hk.m.kept hg e1, hk.s.kept hg e3⟩, hb.grown hg (fun j hj => (own_lt ho j hj).1)⟩
  · rw [reqVals_app, List.length_append, List.length_singleton]
    simpa [reqVals] using hown
  · rcases List.mem_append.1 hp' with hp' | hp'
    · exact ((hr p hp').kept (fun k hk => hg.block k hk.2.1 hk.2.2.1)).mono (fun k hk => ⟨hk.1, by omega, hne k hk.2.1 hk.2.2.1, hk.2.2.2⟩)
    · rw [List.mem_singleton] at hp'
      subst hp'
      have k1 : ∀ k, C ≤ k → some k ≠ v1.ownBlock := fun k hk e => by have := h1 k e.symm; omega
      have k2 : ∀ k, C ≤ k → some k ≠ v2.ownBlock := fun k hk e => by have := h2 k e.symm; omega
      exact (hr'.kept (fun k hk => hg.block k hk.2 (k1 k hk.1))).mono (fun k hk => ⟨by omega, by omega, hne k hk.2 (k1 k hk.1), k2 k hk.1⟩)
end
/-- What reading entries leaves behind. -/
def EntsOut (cp : Cap) (o : List ReqD × List ProbD) (w : World) (e : Ending) (w' : World) : Prop := ∃ v1 v2, e = .returned (.tuple #[v1, v2]) ∧ EInv cp w o.1 o.2 o.1 v1 v2 w'
end Go.Proofs.YtdpfpkhbcdefmaaGreatDoor.S12

