/-
  Entries out of records: the program's Read of package entries, at curricula. Conditions: the records lie below the map's block; what the closure reads stands.
  The program's Read of curriculum. Conditions: the variables hold what their text lays; the records lie in memory, their fields below 2^32 bytes.
  The walk of Plain. Conditions: as in R7Q.
  The sanity check of the laws of requests. Conditions: the variables hold what their text lays.
-/
import Derived.Test.YtdpfpkhbcdefmaaGreatDoorQN01
import Derived.Test.YtdpfpkhbcdefmaaGreatDoorQN02
import Derived.Test.YtdpfpkhbcdefmaaGreatDoorQN03
import Derived.Test.YtdpfpkhbcdefmaaGreatDoorQN04
import Derived.Test.YtdpfpkhbcdefmaaGreatDoorQN05
import Derived.Test.YtdpfpkhbcdefmaaGreatDoorQN06
import Derived.Test.YtdpfpkhbcdefmaaGreatDoorQN07
import Derived.Test.YtdpfpkhbcdefmaaGreatDoorQN08
import Derived.Test.YtdpfpkhbcdefmaaGreatDoorQN09
import Derived.Test.YtdpfpkhbcdefmaaGreatDoorQN10
import Derived.Test.YtdpfpkhbcdefmaaGreatDoorQN11
import Derived.Test.YtdpfpkhbcdefmaaGreatDoorQN12
import Derived.Test.YtdpfpkhbcdefmaaGreatDoorQN13
import Derived.Test.YtdpfpkhbcdefmaaGreatDoorQN14
import Derived.Test.YtdpfpkhbcdefmaaGreatDoorQN15
import Derived.Test.YtdpfpkhbcdefmaaGreatDoorQN16
import Derived.Test.YtdpfpkhbcdefmaaGreatDoorQN17
import Derived.Test.YtdpfpkhbcdefmaaGreatDoorQN18
import Derived.Test.YtdpfpkhbcdefmaaGreatDoorQN19
import Derived.Test.YtdpfpkhbcdefmaaGreatDoorProg
import Derived.WalkKit
import Derived.WalkSpells
import Derived.WalkLawsBesides
import Derived.Lib.Hide
import Derived.Deep.QuietTactic
import Derived.BigQuiet
import Derived.Laws.Rows
import Derived.OwnWalk
import Derived.Lib.BufferWrite
import Derived.Lib.UnsafeStr
import Derived.Laws.IdiomStrings
import Derived.Laws.BytesArg
import Derived.Laws.BytesString
import Derived.Laws.OwnMore
import Derived.Lib.IndexLaws
import Derived.Lib.ItoaNum
import Derived.Lib.Atoi
import Derived.Lib.Bytealg
import Derived.RangeFuncNested
import Derived.RangeFuncBound
import Derived.RangeFuncCalls
import Derived.RangeFuncLeaves
import Derived.Shelf.Abstract
import Derived.Shelf.RegionOpen
import Derived.OwnWalkIn
import Derived.Lib.SlTrimSet
import Derived.Shelf.Strings.Builder1
import Derived.Shelf.Strings.Builder2
import Derived.Shelf.Strings.OnBuilder
import Derived.Shelf.Strings.Trim
import Derived.Shelf.Small.Utf8
import Derived.Shelf.Small.Bits
import Derived.Shelf.Small.Strs
import Derived.Shelf.Small.Wraps
import Derived.Shelf.Strings.BuilderF
import Derived.Shelf.Strings.BuilderK
import Derived.Shelf.Strings.Builder2Cap
import Derived.Shelf.Strconv.Atoi
import Derived.Shelf.Strconv.Itoa0
import Derived.Shelf.Strconv.Itoa1
import Derived.Shelf.LaysM
import Derived.Shelf.Strconv.Itoa2
import Derived.Shelf.Strconv.Itoa3
import Derived.Shelf.Strconv.AtoiErrFast
import Derived.Shelf.Strconv.ParseIntEmpty
import Derived.Shelf.Strconv.AtoiFail
import Derived.Shelf.Strconv.Clone
import Derived.Shelf.Strconv.SyntaxError
import Derived.Shelf.LaysC
import Derived.Shelf.Strconv.ToError
import Derived.Shelf.Strconv.AtoiErr
import Derived.Shelf.Strings.Search1
import Derived.Shelf.Strings.Search2
import Derived.Shelf.Strings.Search3
import Derived.Shelf.Strings.Cut
import Derived.Shelf.Strings.Shaped
import Derived.Shelf.Strings.Prefix
import Derived.Shelf.Strings.Runes
import Derived.Shelf.Strings.AsciiSet
import Derived.Shelf.Bits.Mul64
import Derived.Shelf.Strings.Repeat
import Derived.Shelf.Unicode.DecodeSlow
import Derived.Shelf.Strings.BuilderCap
import Derived.Shelf.Slices.Turned
import Derived.Ground.Names2Prog
import Derived.Shelf.Slices.Clone
import Derived.Ground.SlsfProg
import Derived.Shelf.SlSortCmp.Insertion
import Derived.Shelf.SlSortCmp.Insertion1
import Derived.Shelf.Strings.SlTrimAscii
import Derived.Lib.AtoiErrMem
import Derived.Handy
import Derived.Laws.ResultCell
import Derived.RegionTactic
import Derived.Lib.Repeat
import Derived.Deep.RegionHeld3
import Derived.Lib.SlicesS
import Derived.TacticsInMore
import Derived.LoopNIn
import Derived.LoopIn
import Derived.Laws.BitsAllLaws
import Derived.Laws.BitsLemmas
import Derived.Deep.MidRow
import Derived.Deep.DeepCutAuto
import Derived.Lib.Join
import Derived.Laws.Concat
import Derived.Maps.OwnSet
import Derived.Maps.Range
import Derived.DeepKeys4
import Derived.Maps.OwnOps
import Derived.Maps.Ext
import Derived.Deep.RegionLaw
import Derived.Maps.AppendAt
import Derived.Lib.AppendZerosOnto
import Derived.Lib.SliceRun
import Derived.Deep.LoopGhost
import Derived.Deep.AppendLies
import Derived.RangeFuncBox
import Derived.Laws.AppendOwn
import Derived.IntWalk
import Derived.OneCell
import Derived.Laws.Tables
import Derived.Laws.CopyOwn
import Derived.OrdersHeld
import Derived.Deep.CutBlock
import Derived.Lib.QuietBelow
import Derived.Shelf.SlGeneric
import Derived.Shelf.SlSortCmp.NoneTotal
import Derived.Maps.RangeWalk
import Derived.Sort.KeysCollected
import Derived.Sort.OwnSorted
import Derived.Sort.WalkA
import Derived.Sort.LotA
import Derived.Lib.AppendIntMem
set_option linter.unusedVariables false
namespace Go.Proofs.YtdpfpkhbcdefmaaGreatDoor.S12
open Go Go.Proofs Go.RowKit Go.Lib Go.Proofs.YtdpfpkhbcdefmaaGreatDoor

set_option maxHeartbeats 16000000 in
set_option maxRecDepth 100000 in
theorem entries_any (A : Option Addr) (l : List RecD) (c B : Nat) (cp : Cap) (w : World) (hB : B ≤ w.heap.size) (h1 : B ≤ cp.M) (h2 : B ≤ cp.N) (hM : cp.M < w.heap.size) (hN : cp.N < w.heap.size) (h : RecsIn w (fun k => k < B) A l) (hl : l.length ≤ 1073741824)
    (hsz : ∀ x ∈ l, ∀ f ∈ x.2, f.1.length < 4294967281) (hE : ∀ W, Below B w W → S3.Env W) (hC : CapIn w cp) (hK : Acc w cp []) :
    Calls Tryz.prog 38 #[.slice A l.length c, .int .i64 4, .func (.func 39) #[] #[], cp.fn] w (EntsOut cp (recsM l) w) := by
  obtain ⟨NB, hNB⟩ : ∃ x, cp.NB = x := ⟨_, rfl⟩
  obtain ⟨WB, hWB⟩ : ∃ x, cp.WB = x := ⟨_, rfl⟩
  have hfn : cp.fn = .func (.func 69) #[] #[.pointer (some ⟨NB, 0, none⟩), .pointer (some ⟨WB, 0, none⟩)] := by rw [← hNB, ← hWB]; rfl
  rw [hfn]
  have HNB := hid hNB
  have HWB := hid hWB
  clear hNB hWB hfn
  obtain ⟨i4, hi4, hz4, hs4, hb4⟩ := info_parts infoProb
  obtain ⟨i5, hi5, hz5, hs5, hb5⟩ := info_parts infoReq
  have ea : ∀ args w, (callFunc 69 args).run Tryz.prog w = .ok (.enter 69 args) w := enters_of Tryz.func69 (by kernel_rfl) rfl
  have hI0 := EInv.start (cp := cp) hK
  have HH := hid h
  have HSZ := hid hsz
  have HE := hid hE
  have HC := hid hC
  have HI0 := hid hI0
  clear h hsz hE hC hK hI0
  unfold EntsOut
  go_enter Tryz.func38, Tryz.ntmps38
  go_wp2
  go_loopw [10, 11, 13, 19] (fun u1 u2 _ iv wr => ∃ (i : Nat) (A1 : Option Addr) (n1 c1 : Nat) (A2 : Option Addr) (n2 c2 : Nat), u1 = .slice A1 n1 c1 ∧ u2 = .slice A2 n2 c2 ∧ iv = .int .i64 (i : Int) ∧ i ≤ l.length ∧ Hid (EInv cp w (recsM (l.take i)).1 (recsM (l.take i)).2 (recsM (l.take i)).1 (.slice A1 n1 c1) (.slice A2 n2 c2) wr)) (fun _ _ _ iv _ => l.length - (RowKit.intOf iv).toNat)
  case atStart => exact ⟨0, _, _, _, _, _, _, rfl, rfl, rfl, Nat.zero_le _, hid HI0.out⟩
  case round =>
    obtain ⟨i, A1, n1, c1, A2, n2, c2, rfl, rfl, rfl, hi, hI⟩ := hrel
    have hMs : cp.M < wr.heap.size := hI.out.acc.m.lt
    have hNs : cp.N < wr.heap.size := hI.out.acc.s.lt
    have HNS := hid hNs
    clear hNs
    obtain ⟨Lr0, hL0, ho0, hr0⟩ := hI.out.row
    have hlt1 : ∀ k, (Value.slice A1 n1 c1).ownBlock = some k → k < wr.heap.size := fun k e => (own_lt ho0 k e).2
    have hlt2 : ∀ k, (Value.slice A2 n2 c2).ownBlock = some k → k < wr.heap.size := fun k e => (own_lt hI.out.probs k e).2
    have HL1 := hid hlt1
    have HL2 := hid hlt2
    have HMS := hid hMs
    have hws := hI.out.gr.size
    have HWS := hid hws
    clear hL0 ho0 hr0 hlt1 hlt2 hMs hws
    by_cases hlt : i < l.length
    · have hltz : (i : Int) < (l.length : Int) := by omega
      obtain ⟨fb, fo, A', c', rfl, hfb, hfi, hc1, hc2, y0, y1⟩ := HH.out.at_ hlt
      have kc : ∀ o : Nat, wr.cell? ⟨fb, o, none⟩ = w.cell? ⟨fb, o, none⟩ := fun o => (hI.out.below hB h1 h2).cell (p := ⟨fb, o, none⟩) hfb
      rw [← kc] at y0 y1
      have hst := recsM_take l i hlt
      have hrl := recsM_few (l.take i)
      have hpl := recsM_probs (l.take i)
      rw [List.length_take] at hpl
      have hszi := HSZ.out _ (List.getElem_mem hlt)
      obtain ⟨⟨rs, ps⟩, hst0⟩ : ∃ S, recsM (l.take i) = S := ⟨_, rfl⟩
      rw [hst0] at hst hrl hpl hI
      obtain ⟨⟨line, fs⟩, hx⟩ : ∃ X, l[i] = X := ⟨_, rfl⟩
      rw [hx] at hfi hc1 y0 y1 hst hszi
      dsimp only at hfi hc1 y0 y1 hst hszi hrl hpl hI
      obtain ⟨F, hF⟩ : ∃ F, fs.length = F := ⟨_, rfl⟩
      have hw1 := (Below.refl wr.heap.size wr).alloc (Nat.le_refl _) (.cells #[.int .i64 line, .slice A' F c'] 26)
      have e1 := heap_alloc_new wr (.cells #[.int .i64 line, .slice A' F c'] 26)
      have hs1 : (wr.alloc (.cells #[.int .i64 line, .slice A' F c'] 26)).heap.size = wr.heap.size + 1 := by simp
      have x0 : (wr.alloc (.cells #[.int .i64 line, .slice A' F c'] 26)).cell? ⟨wr.heap.size, 0, none⟩ = some (.int .i64 line) := by rw [Lib.cell_of_heap e1]; rfl
      have x1 : (wr.alloc (.cells #[.int .i64 line, .slice A' F c'] 26)).cell? ⟨wr.heap.size, 1, none⟩ = some (.slice A' F c') := by rw [Lib.cell_of_heap e1]; rfl
      have hMw1 : Below B w (wr.alloc (.cells #[.int .i64 line, .slice A' F c'] 26)) := (hI.out.below hB h1 h2).trans (hw1.mono (Nat.le_trans hB HWS.out))
      have cE := readEntry_any A' fs c' B (wr.alloc (.cells #[.int .i64 line, .slice A' F c'] 26)) (by rw [hs1]; have := HWS.out; omega) (hfi.below hMw1) hc1 hc2
        (fun W R j x r q hb hR hj hf hX hR' => by
          obtain ⟨f, hf1, rfl⟩ := hf
          have q1 := HE.out W (hMw1.trans (hb.mono (by rw [hs1]; have := HWS.out; omega)))
          exact readField_any f.1 r q R W hX hR' q1 (hszi f hf1) j hj)
      rw [hF] at cE y1
      unfold EntryOut at cE
      obtain ⟨⟨r, col, e0⟩, hen⟩ : ∃ S, entryM fs = S := ⟨_, rfl⟩
      have hrec : recM (rs, ps) (line, fs) = if e0 ≠ 0 then (rs, ps ++ [(line, col, e0)]) else if accM rs r ≠ 0 then (rs, ps ++ [(line, col, accM rs r)]) else (rs ++ [r], ps) := by unfold recM; rw [hen]
      rw [hrec] at hst
      rw [hen] at cE
      have CE := hid cE
      have HST := hid hst
      have HI := hid hI.out
      have HE1 := hid e1
      have HW1 := hid hw1
      have HS1 := hid hs1
      have HX := hid hx
      have HST0 := hid hst0
      have HFI := hid hfi
      have HSZI := hid hszi
      have HEN := hid hen
      clear hst hst0 hI e1 hw1 hs1 hx hfi hszi hen hrec kc cE hMw1 hF
      go_wp2_with fail
      generalize wr.alloc (.cells #[.int .i64 line, .slice A' F c'] 26) = w1 at CE HE1 HW1 HS1 x0 x1 ⊢
      refine CE.out.mono ?_
      rintro e w2 ⟨⟨q, rfl, hroom⟩, hb2⟩
      have hrl1 : r.s.length < 4294967281 ∧ r.c.length < 4294967281 := by
        have := entryM_size 4294967281 (by omega) fs HSZI.out
        rw [HEN.out] at this
        exact this
      have hvs : reqV r q = .agg #[.string (ba r.s), .string (ba r.c), .int .i64 r.p, .slice q.1 r.l.length q.2] := rfl
      rw [hvs]
      have hw3 := (Below.refl w2.heap.size w2).alloc (Nat.le_refl _) (.cells #[.string (ba r.s), .string (ba r.c), .int .i64 r.p, .slice q.1 r.l.length q.2] 61)
      have hB5 := Box4.new w2 (.string (ba r.s)) (.string (ba r.c)) (.int .i64 r.p) (.slice q.1 r.l.length q.2)
      have hs3 : (w2.alloc (.cells #[.string (ba r.s), .string (ba r.c), .int .i64 r.p, .slice q.1 r.l.length q.2] 61)).heap.size = w2.heap.size + 1 := by simp
      obtain ⟨w3, hw3e⟩ : ∃ w3, w2.alloc (.cells #[.string (ba r.s), .string (ba r.c), .int .i64 r.p, .slice q.1 r.l.length q.2] 61) = w3 := ⟨_, rfl⟩
      rw [hw3e] at hw3 hB5 hs3
      have hb13 : Below wr.heap.size wr w3 := HW1.out.trans ((hb2.mono (by rw [HS1.out]; omega)).trans (hw3.mono (by have := hb2.size; have := HW1.out.size; omega)))
      have hI3 := HI.out.under hM hN hb13
      have hroom3 : ReqIn w3 (fun k => w1.heap.size ≤ k ∧ k < w3.heap.size) r q := (hroom.kept (fun k hk => hw3.block k hk.2)).mono (fun k hk => ⟨hk.1, by omega⟩)
      have x03 : w3.cell? ⟨wr.heap.size, 0, none⟩ = some (.int .i64 line) := by
        rw [hw3.cell (p := ⟨wr.heap.size, 0, none⟩) (by have := hb2.size; have := HS1.out; show wr.heap.size < w2.heap.size; omega), hb2.cell (p := ⟨wr.heap.size, 0, none⟩) (by have := HS1.out; show wr.heap.size < w1.heap.size; omega)]
        exact x0
      have hz3 : wr.heap.size < w3.heap.size := by have := hb2.size; have := HS1.out; omega
      have HI3 := hid hI3
      have HR3 := hid hroom3
      have HB5 := hid hB5
      have HZ3 := hid hz3
      have HS3 := hid hs3
      have HZ2 := hid hb2.size
      clear hI3 hroom3 hB5 hb13 hw3 hroom hb2 x0 x1 hvs hz3 hs3
      by_cases he : e0 = 0
      · subst he
        have hst := HST.out
        rw [if_neg (by simp)] at hst
        have cA3 := accept_any cp rs r q hrl (by omega) (by omega) w3 (HC.out.kept HI3.out.gr) HI3.out.acc
        unfold AccOut preA reqV at cA3
        rw [HNB.out, HWB.out] at cA3
        obtain ⟨e1, he1⟩ : ∃ e1, accM rs r = e1 := ⟨_, rfl⟩
        rw [he1] at cA3 hst
        have CA := hid cA3
        obtain ⟨y0', y1', y2', y3'⟩ := HB5.out.cells
        clear cA3
        by_cases he2 : e1 = 0
        · subst he2
          rw [if_neg (by simp)] at hst
          have HSTF := hid hst
          clear hst
          go_wp2_with fail
          refine CA.out.mono ?_
          rintro e w4 ⟨rfl, hk4, hg4⟩
          rw [if_pos trivial] at hk4
          have hI4 := HI3.out.past hM hN hg4 hk4
          have hB54 := HB5.out.kept (hg4.block w2.heap.size (by have := HS3.out; omega) (by have := HMS.out; have := HZ2.out; have := HS1.out; omega) (by have := HNS.out; have := HZ2.out; have := HS1.out; omega))
          have hR4 : ReqIn w4 (fun k => w1.heap.size ≤ k ∧ k < w4.heap.size) r q := (HR3.out.kept (fun k hk => hg4.block k hk.2 (by have := HMS.out; have := HS1.out; have := hk.1; omega) (by have := HNS.out; have := HS1.out; have := hk.1; omega))).mono (fun k hk => ⟨hk.1, Nat.lt_of_lt_of_le hk.2 hg4.size⟩)
          obtain ⟨Lr0, hL0, ho0, hr0⟩ := hI4.row
          have HRR := hid hr0
          have hz4 : wr.heap.size < w4.heap.size := Nat.lt_of_lt_of_le HZ3.out hg4.size
          have hrz : rs.length = n1 := by
            have hl0 : Lr0.length = rs.length := by rw [← hL0, List.length_map]
            rcases ho0.2 with ⟨hv, h0⟩ | ⟨g, cap, cur, hv, _⟩
            · injection hv with _ h1 _; omega
            · injection hv with _ h1 _; omega
          have hl0 : Lr0.length = n1 := by rw [← hrz, ← hL0, List.length_map]
          rw [hl0] at ho0
          have HMX : Hid (n1 + 1 ≤ maxLen) := hid (by have := hrl.1; unfold maxLen; omega)
          have HBY : Hid ((n1 + 1) * 64 ≤ 140737488355328) := hid (by have := hrl.1; omega)
          have HO0 := hid ho0
          have HL0 := hid hL0
          have HLL0 := hid hl0
          have HRZ := hid hrz
          have HI4 := hid hI4
          have HR4 := hid hR4
          have HN5 : Hid (∀ (j : Nat) (u : Value), (reqVs r q)[j]? = some u → (w4.alloc (.cells #[.string (ba r.s), .string (ba r.c), .int .i64 r.p, .slice q.1 r.l.length q.2] 61)).cell? ((⟨w4.heap.size, 0, none⟩ : Addr).add j) = some u) := hid (four_newR w4 r q)
          have HON : Hid (∀ u ∈ reqVs r q, u.oneCell' = true) := hid (req_one r q)
          have HW4S : Hid (w.heap.size ≤ (w4.alloc (.cells #[.string (ba r.s), .string (ba r.c), .int .i64 r.p, .slice q.1 r.l.length q.2] 61)).heap.size) := hid (by have := HWS.out; simp; omega)
          obtain ⟨z0', z1', z2', z3'⟩ := hB54.cells
          clear hr0 hI4 hR4 hB54 hk4 hg4 ho0 hL0 hl0 hrz y0' y1' y2' y3'
          go_wp2_with (at_builtin; refine wpList_append_own_at _ rfl _ _ 22 rfl w.heap.size 61 i5 (.agg #[.string ⟨#[]⟩, .string ⟨#[]⟩, .int .i64 0, .slice none 0 0]) 4 64 Tryz.underlying22 hi5 hz5 hs5 hb5 rfl (by decide) _ n1 (reqVals Lr0) rfl (World.ownsRow.alloc HO0.out _) ⟨w4.heap.size, 0, none⟩ 1 1 (reqVs r q) rfl rfl HN5.out HON.out HMX.out HBY.out HW4S.out ?_)
          intro v' w5 hown' hgrow hnil hat
          obtain ⟨g', cap', rfl⟩ := ownsRow_succ (k := n1) hown'
          have hI5 := EInv.room (C := w1.heap.size) HI4.out hM hN HR4.out (by have := HWS.out; have := HS1.out; omega) (fun k e => by have := HL1.out k e; have := HS1.out; omega) (fun k e => by have := HL2.out k e; have := HS1.out; omega) HL0.out (by rw [HLL0.out]; exact HO0.out) HRR.out (v1' := .slice (some ⟨g', 0, none⟩) (n1 + 1) cap') (by rw [HLL0.out]; exact hown') (grownBy_of_alloc hgrow) (hat.imp id (fun h => ⟨_, h, by simp⟩))
          have HI5 : Hid (EInv cp w (recsM (l.take (i + 1))).1 (recsM (l.take (i + 1))).2 (recsM (l.take (i + 1))).1 (.slice (some ⟨g', 0, none⟩) (n1 + 1) cap') (.slice A2 n2 c2) w5) := hid (by rw [HSTF.out]; exact hI5)
          clear hI5 hown' hgrow hnil hat
          go_wp2_with fail
          go_roundw
          case rel => exact ⟨i + 1, _, _, _, _, _, _, rfl, rfl, by go_num, by omega, HI5⟩
          case measure => simp [RowKit.intOf]; omega
        · rw [if_pos he2] at hst
          have HSTF := hid hst
          have HNE := hid he2
          clear hst
          go_wp2_with fail
          refine CA.out.mono ?_
          rintro e w4 ⟨rfl, hk4, hg4⟩
          rw [if_neg he2] at hk4
          have hI4 := HI3.out.past hM hN hg4 hk4
          have x04 : w4.cell? ⟨wr.heap.size, 0, none⟩ = some (.int .i64 line) := (World.cell?_of_block (w := w3) (hg4.block wr.heap.size HZ3.out (by have := HMS.out; omega) (by have := HNS.out; omega))).trans x03
          have HI4 := hid hI4
          clear hI4 hk4 hg4 y0' y1' y2' y3'
          have hne2 : (e1 != 0) = true := by simpa using HNE.out
          have hpz : ps.length = n2 := by
            rcases HI4.out.probs.2 with ⟨hv, h0⟩ | ⟨g, cap, cur, hv, _⟩
            · injection hv with _ h1 _; omega
            · injection hv with _ h1 _; omega
          have HMX : Hid (n2 + 1 ≤ maxLen) := hid (by unfold maxLen; omega)
          have HBY : Hid ((n2 + 1) * 32 ≤ 140737488355328) := hid (by omega)
          have hprow : ProbsRow w4 w.heap.size (.slice A2 n2 c2) ps := HI4.out.probs
          unfold ProbsRow at hprow
          rw [hpz] at hprow
          have HPR := hid hprow
          have HN4 : Hid (∀ (j : Nat) (u : Value), (probVs (line, col, e1))[j]? = some u → (w4.alloc (.cells #[.int .i64 0, .int .i64 line, .int .i64 col, .int .i64 e1] 80)).cell? ((⟨w4.heap.size, 0, none⟩ : Addr).add j) = some u) := hid (four_new w4 0 line col e1 80)
          have HON : Hid (∀ u ∈ probVs (line, col, e1), u.oneCell' = true) := hid (times_one (0, line, col, e1))
          have HWZ := hid HI4.out.gr.size
          have HW3S : Hid (w.heap.size ≤ (w4.alloc (.cells #[.int .i64 0, .int .i64 line, .int .i64 col, .int .i64 e1] 80)).heap.size) := hid (by have := HWZ.out; simp; omega)
          clear hprow
          go_wp2_with (at_builtin; (try rw [hw3e]); refine wpList_append_own_at _ rfl _ _ 32 rfl w.heap.size 80 i4 (.agg #[.int .i64 0, .int .i64 0, .int .i64 0, .int .i64 0]) 4 32 Tryz.underlying32 hi4 hz4 hs4 hb4 rfl (by decide) _ n2 (probVals ps) rfl (World.ownsRow.alloc HPR.out _) ⟨w4.heap.size, 0, none⟩ 1 1 (probVs (line, col, e1)) rfl rfl HN4.out HON.out HMX.out HBY.out HW3S.out ?_)
          intro v' w5 hown' hgrow hnil hat
          obtain ⟨g', cap', rfl⟩ := ownsRow_succ (k := n2) hown'
          have hI5 := HI4.out.prob (p := (line, col, e1)) hM hN (v2' := .slice (some ⟨g', 0, none⟩) (n2 + 1) cap') (by unfold ProbsRow; rw [probVals_app, List.length_append, hpz]; simpa [probVals] using hown') (grownBy_of_alloc hgrow) (hat.imp id (fun h => ⟨_, h, by simp⟩))
          have HI5 : Hid (EInv cp w (recsM (l.take (i + 1))).1 (recsM (l.take (i + 1))).2 (recsM (l.take (i + 1))).1 (.slice A1 n1 c1) (.slice (some ⟨g', 0, none⟩) (n2 + 1) cap') w5) := hid (by rw [HSTF.out]; exact hI5)
          clear hI5 hown' hgrow hnil hat
          go_wp2_with fail
          go_roundw
          case rel => exact ⟨i + 1, _, _, _, _, _, _, rfl, rfl, by go_num, by omega, HI5⟩
          case measure => simp [RowKit.intOf]; omega
      · have hst := HST.out
        rw [if_pos he] at hst
        have HSTF := hid hst
        clear hst
        have hne : (e0 == 0) = false := by simpa using he
        have HNE := hid he
        have hne2 : (e0 != 0) = true := by simpa using HNE.out
        have hpz : ps.length = n2 := by
          rcases HI3.out.probs.2 with ⟨hv, h0⟩ | ⟨g, cap, cur, hv, _⟩
          · injection hv with _ h1 _; omega
          · injection hv with _ h1 _; omega
        have HMX : Hid (n2 + 1 ≤ maxLen) := hid (by unfold maxLen; omega)
        have HBY : Hid ((n2 + 1) * 32 ≤ 140737488355328) := hid (by omega)
        have hprow : ProbsRow w3 w.heap.size (.slice A2 n2 c2) ps := HI3.out.probs
        unfold ProbsRow at hprow
        rw [hpz] at hprow
        have HPR := hid hprow
        have HN4 : Hid (∀ (j : Nat) (u : Value), (probVs (line, col, e0))[j]? = some u → (w3.alloc (.cells #[.int .i64 0, .int .i64 line, .int .i64 col, .int .i64 e0] 80)).cell? ((⟨w3.heap.size, 0, none⟩ : Addr).add j) = some u) := hid (four_new w3 0 line col e0 80)
        have HON : Hid (∀ u ∈ probVs (line, col, e0), u.oneCell' = true) := hid (times_one (0, line, col, e0))
        have HWZ := hid HI3.out.gr.size
        have HW3S : Hid (w.heap.size ≤ (w3.alloc (.cells #[.int .i64 0, .int .i64 line, .int .i64 col, .int .i64 e0] 80)).heap.size) := hid (by have := HWZ.out; simp; omega)
        clear hprow
        go_wp2_with (at_builtin; (try rw [hw3e]); refine wpList_append_own_at _ rfl _ _ 32 rfl w.heap.size 80 i4 (.agg #[.int .i64 0, .int .i64 0, .int .i64 0, .int .i64 0]) 4 32 Tryz.underlying32 hi4 hz4 hs4 hb4 rfl (by decide) _ n2 (probVals ps) rfl (World.ownsRow.alloc HPR.out _) ⟨w3.heap.size, 0, none⟩ 1 1 (probVs (line, col, e0)) rfl rfl HN4.out HON.out HMX.out HBY.out HW3S.out ?_)
        intro v' w5 hown' hgrow hnil hat
        obtain ⟨g', cap', rfl⟩ := ownsRow_succ (k := n2) hown'
        have hI5 := HI3.out.prob (p := (line, col, e0)) hM hN (v2' := .slice (some ⟨g', 0, none⟩) (n2 + 1) cap') (by unfold ProbsRow; rw [probVals_app, List.length_append, hpz]; simpa [probVals] using hown') (grownBy_of_alloc hgrow) (hat.imp id (fun h => ⟨_, h, by simp⟩))
        have HI5 : Hid (EInv cp w (recsM (l.take (i + 1))).1 (recsM (l.take (i + 1))).2 (recsM (l.take (i + 1))).1 (.slice A1 n1 c1) (.slice (some ⟨g', 0, none⟩) (n2 + 1) cap') w5) := hid (by rw [HSTF.out]; exact hI5)
        clear hI5 hown' hgrow hnil hat
        go_wp2_with fail
        go_roundw
        case rel => exact ⟨i + 1, _, _, _, _, _, _, rfl, rfl, by go_num, by omega, HI5⟩
        case measure => simp [RowKit.intOf]; omega
    · have hltz : ¬ (i : Int) < (l.length : Int) := by omega
      rw [List.take_of_length_le (by omega)] at hI
      go_wp2
      go_ret2
      exact ⟨_, _, rfl, hI.out⟩
end Go.Proofs.YtdpfpkhbcdefmaaGreatDoor.S12

set_option linter.unusedVariables false
namespace Go.Proofs.YtdpfpkhbcdefmaaGreatDoor.S12
open Go Go.Proofs Go.RowKit Go.Lib Go.Proofs.YtdpfpkhbcdefmaaGreatDoor

/-- What reading curricula leaves behind. -/
def ReadOut (o : List ReqD × List ProbD) (w : World) (e : Ending) (w' : World) : Prop :=
  ∃ v1 v2, e = .returned (.tuple #[v1, v2]) ∧ ReqRow w' w.heap.size (fun k => w.heap.size ≤ k ∧ k < w'.heap.size) v1 o.1 ∧ ProbsRow w' w.heap.size v2 o.2 ∧ Below w.heap.size w w'
theorem rowLowQ {w : World} {e z n B B' : Nat} {v : Value} {xs : List Value} (h : w.ownsRow B e z v n xs) (hB : B' ≤ B) : w.ownsRow B' e z v n xs := by
  obtain ⟨h1, h2⟩ := h
  refine ⟨h1, ?_⟩
  rcases h2 with h2 | ⟨g, cap, cur, hv, hg, r⟩
  · exact .inl h2
  · exact .inr ⟨g, cap, cur, hv, Nat.le_trans hB hg, r⟩
set_option maxHeartbeats 16000000 in
set_option maxRecDepth 100000 in
theorem qread_any (A : Option Addr) (l : List RecD) (c : Nat) (w : World) (h : RecsIn w (fun k => k < w.heap.size) A l) (hl : l.length ≤ 1073741824)
    (hsz : ∀ x ∈ l, ∀ f ∈ x.2, f.1.length < 4294967281) (hE : S3.Env w) :
    Calls Tryz.prog 10 #[.slice A l.length c] w (ReadOut (recsM l) w) := by
  unfold ReadOut
  have HH := hid h
  have HE := hid hE
  have HSZ := hid hsz
  clear h hE hsz
  go_enter Tryz.func10, Tryz.ntmps10
  go_wp2_with fail
  refine (acceptor_any w).mono ?_
  rintro e w2 ⟨cp, rfl, hC, hA, hM4, hN4, hb2⟩
  have hrec : RecsIn w2 (fun k => k < w.heap.size) A l := HH.out.kept (fun k hk => hb2.block k hk)
  have cE := entries_any A l c w.heap.size cp w2 hb2.size hM4 hN4 hA.m.lt hA.s.lt hrec hl HSZ.out (fun W hW => HE.out.below (hb2.trans hW)) hC hA
  unfold EntsOut at cE
  have CE := hid cE
  have HB2 := hid hb2
  have HM4 := hid hM4
  have HN4 := hid hN4
  obtain ⟨F, hF⟩ : ∃ F, cp.fn = F := ⟨_, rfl⟩
  rw [hF] at CE ⊢
  clear cE hrec hA hC hM4 hN4 hb2 hF
  go_wp2_with fail
  refine CE.out.mono ?_
  rintro e w3 ⟨v1, v2, rfl, hi⟩
  have HI := hid hi
  clear hi
  go_wp2
  go_ret2
  obtain ⟨⟨Lr, hL, ho, hr⟩, hp, _, hb⟩ := HI.out
  have hw12 := HB2.out.size
  have hn : (recsM l).1.length = Lr.length := by rw [← hL, List.length_map]
  refine ⟨v1, v2, rfl, ⟨Lr, hL, ?_, fun p hp' => (hr p hp').mono (fun k hk => ⟨by omega, hk.2.1⟩)⟩, rowLowQ hp (by omega), ?_⟩
  · rw [hn]
    exact rowLowQ ho (by omega)
  · exact HB2.out.trans (HI.out.below HB2.out.size HM4.out HN4.out)
end Go.Proofs.YtdpfpkhbcdefmaaGreatDoor.S12

set_option linter.unusedVariables false
namespace Go.Proofs.YtdpfpkhbcdefmaaGreatDoor
open Go Go.Proofs Go.RowKit Go.Lib

/-- What holds while the fields of one record are laid down: the record's box X, whose list owns a row from X + 1 on; below X nothing has turned since wz. -/
structure PIn (X : Nat) (line : Int) (wz w : World) (l : List FieldD) : Prop where
  x : ∃ A c, w.heap[X]? = some (.cells #[.int .i64 line, .slice A l.length c] 26 (0, 0)) ∧ FieldRow w (X + 1) (.slice A l.length c) l
  b : Below X wz w

theorem PIn.snoc {X g7 cap7 k cx : Nat} {line : Int} {wz wr w7 : World} {L0 : List FieldD} {f : FieldD} {Ax : Option Addr} (hb : Below X wz wr) (hxr : wr.ownsRow (X + 1) 99 3 (.slice Ax k cx) k (fieldVals L0)) (hg : wr.grownBy w7 (Value.slice Ax k cx).ownBlock)
    (hx7 : w7.heap[X]? = some (.cells #[.int .i64 line, .slice Ax k cx] 26 (0, 0))) (hown : w7.ownsRow (X + 1) 99 3 (.slice (some ⟨g7, 0, none⟩) (k + 1) cap7) (k + 1) (fieldVals L0 ++ fieldVs f)) (hl : L0.length = k) (hXs : X < wr.heap.size) :
    PIn X line wz (w7.setCell ⟨X, 1, none⟩ (.slice (some ⟨g7, 0, none⟩) (k + 1) cap7)) (L0 ++ [f]) := by
  have hs := hg.size
  have hg2 : w7.grownBy (w7.setCell ⟨X, 1, none⟩ (.slice (some ⟨g7, 0, none⟩) (k + 1) cap7)) (some X) := ⟨by simp [World.setCell], by simp [World.setCell], by simp [World.setCell], by simp [World.setCell], fun j _ hj => Below.heap_setCell w7 ⟨X, 1, none⟩ _ j (fun e => hj (by rw [show j = X from e]))⟩
  have hn : (L0 ++ [f]).length = k + 1 := by simp [hl]
  refine ⟨⟨some ⟨g7, 0, none⟩, cap7, ?_, ?_⟩, ?_⟩
  · rw [hn, heap_setCell_same w7 X 1 _ _ _ hx7]; rfl
  · unfold FieldRow
    rw [hn, fieldVals_app]
    refine World.ownsRow.kept ?_ hg2 (.inr fun e => ?_)
    · simpa [fieldVals] using hown
    · have := (World.ownsRow.lt hown _ e).1
      omega
  · exact (hb.grown hg (by omega) (fun j e => by have := (World.ownsRow.lt hxr j e).1; omega)).grown hg2 (by omega) (fun j e => by injection e; omega)
theorem RecRow.snoc {wz wr w9 : World} {B X n : Nat} {v v' : Value} {l : List RecD} {x : RecD} {Ax : Option Addr} {cx : Nat} {L : List RecA} (hL : L.map (·.1) = l) (ho : wz.ownsRow B 26 2 v n (recVals L))
    (hr : ∀ p ∈ L, FieldsIn wz (fun b => B ≤ b ∧ b < wz.heap.size ∧ v.ownBlock ≠ some b) p.2.1 p.1.2 ∧ p.1.2.length ≤ p.2.2 ∧ p.2.2 ≤ 9223372036854775807) (hn : L.length = n) (hX : wz.heap.size = X) (hBX : B ≤ X) (hb : Below X wz wr)
    (hf : FieldRow wr (X + 1) (.slice Ax x.2.length cx) x.2) (hg : wr.grownBy w9 v.ownBlock) (hat : v'.ownBlock = v.ownBlock ∨ ∃ j, v'.ownBlock = some j ∧ wr.heap.size ≤ j)
    (hown : w9.ownsRow B 26 2 v' (n + 1) (recVals L ++ recVs (x, (Ax, cx)))) : RecRow w9 B v' (l ++ [x]) := by
  have hs := hg.size
  have hbs := hb.size
  have hvl : ∀ g, v.ownBlock = some g → B ≤ g ∧ g < X := fun g e => hX ▸ World.ownsRow.lt ho g e
  have hne : ∀ b, b < wr.heap.size → v.ownBlock ≠ some b → v'.ownBlock ≠ some b := by
    intro b hb hne
    rcases hat with e | ⟨j, e, hj⟩
    · rw [e]; exact hne
    · rw [e]; intro e0; injection e0 with e0; omega
  refine ⟨L ++ [(x, (Ax, cx))], by rw [List.map_append, hL]; rfl, ?_, fun p hp => ?_⟩
  · rw [List.length_append, List.length_singleton, hn, recVals_app]
    simpa [recVals] using hown
  · rcases List.mem_append.1 hp with hp | hp
    · obtain ⟨f1, f2, f3⟩ := hr p hp
      refine ⟨(f1.kept (w' := w9) (fun b hb' => ?_)).mono (fun b hb' => ⟨hb'.1, by omega, hne b (by omega) hb'.2.2⟩), f2, f3⟩
      rw [hg.block b (by omega) (fun e => hb'.2.2 e.symm), hb.block b (by omega)]
    · rw [List.mem_singleton] at hp
      subst hp
      obtain ⟨A5, c5, eA, hl5, hc5, hI5⟩ := hf.fieldsIn
      obtain ⟨rfl, rfl⟩ : Ax = A5 ∧ cx = c5 := by injection eA with e1 _ e3; exact ⟨e1, e3⟩
      have hown5 : ∀ b, (Value.slice Ax x.2.length cx).ownBlock = some b → X + 1 ≤ b ∧ b < wr.heap.size := fun b e => World.ownsRow.lt hf b e
      have hnv : ∀ b, (Value.slice Ax x.2.length cx).ownBlock = some b → v.ownBlock ≠ some b := fun b e e2 => by have := hown5 b e; have := hvl b e2; omega
      refine ⟨(hI5.kept (w' := w9) (fun b hb' => hg.block b (hown5 b hb').2 (fun e => hnv b hb' e.symm))).mono (fun b hb' => ⟨by have := hown5 b hb'; omega, by have := hown5 b hb'; omega, hne b (hown5 b hb').2 (hnv b hb')⟩), hl5, hc5⟩
set_option maxHeartbeats 8000000 in
set_option maxRecDepth 100000 in
theorem plain_any (A : Option Addr) (rows : List (List Str)) (c B : Nat) (w : World) (hB : B ≤ w.heap.size) (h : RowsIn w (fun b => b < B) A rows) (hr : rows.length ≤ 1000000) (hf : ∀ r ∈ rows, r.length ≤ 1000000) (hs : ∀ r ∈ rows, ∀ s ∈ r, s.length ≤ 1000000) :
    Calls Tryz.prog 31 #[.slice A rows.length c] w fun e w' => (∃ v, e = .returned v ∧ RecRow w' w.heap.size v (plainM rows)) ∧ Below w.heap.size w w' := by
  obtain ⟨iF, hiF, hzF, hsF, hbF⟩ := info_parts infoField
  obtain ⟨iR, hiR, hzR, hsR, hbR⟩ := info_parts infoRec
  have HH := hid h
  have HF := hid hf
  have HS := hid hs
  clear h hf hs
  go_enter Tryz.func31, Tryz.ntmps31
  go_wp2
  go_loopw [3, 4, 5, 6, 7] (fun v iv _ _ _ wr => ∃ (i : Nat) (Ao : Option Addr) (no co : Nat), v = .slice Ao no co ∧ iv = .int .i64 (i : Int) ∧ i ≤ rows.length ∧ Hid (RecRow wr w.heap.size (.slice Ao no co) (plainM (rows.take i))) ∧ Hid (Below w.heap.size w wr)) (fun _ iv _ _ _ _ => rows.length - (RowKit.intOf iv).toNat)
  case atStart => exact ⟨0, _, _, _, rfl, rfl, Nat.zero_le _, hid ⟨[], rfl, World.ownsRow_nil _ _ _ _, fun p hp => by simp at hp⟩, hid (Below.refl _ _)⟩
  case round =>
    obtain ⟨i, Ao, no, co, rfl, rfl, hi, hO, hBw⟩ := hrel
    by_cases hlt : i < rows.length
    · have hltz : (i : Int) < (rows.length : Int) := by omega
      have q1 : IntKind.i64.wrap ((i : Int) + 1) = (i : Int) + 1 := IntWalk.i64_in _ (by omega)
      obtain ⟨b1, o1, A1, c1, rfl, hb1, g1, e1, e2, s1⟩ := ((HH.out.mono (fun b hb => Nat.lt_of_lt_of_le hb hB)).below hBw.out).at_ hlt
      have hfl := HF.out _ (List.getElem_mem hlt)
      have hsl := HS.out _ (List.getElem_mem hlt)
      have hst := plainM_take rows i hlt
      obtain ⟨row, hrow⟩ : ∃ r, rows[i] = r := ⟨_, rfl⟩
      rw [hrow] at g1 e1 s1 hfl hsl hst
      have HST := hid hst
      have HSL := hid hsl
      have S1 := hid s1
      have hX0 := heap_alloc_new wr (.cells #[.int .i64 ((i : Int) + 1), .slice none 0 0] 26)
      have hB0 := (Below.refl wr.heap.size wr).alloc (Nat.le_refl _) (.cells #[.int .i64 ((i : Int) + 1), .slice none 0 0] 26)
      have hs0 : (wr.alloc (.cells #[.int .i64 ((i : Int) + 1), .slice none 0 0] 26)).heap.size = wr.heap.size + 1 := by simp
      have HX0 := hid hX0
      have HB0 := hid hB0
      have HS0 := hid hs0
      clear hst hsl s1 hrow hX0 hB0 hs0
      go_wp2_with fail
      generalize wr.alloc (.cells #[.int .i64 ((i : Int) + 1), .slice none 0 0] 26) = wx at HX0 HB0 HS0 ⊢
      have hk0 : PIn wr.heap.size ((i : Int) + 1) wr wx [] := ⟨⟨none, 0, HX0.out, World.ownsRow_nil _ _ _ _⟩, HB0.out⟩
      have hwz := hBw.out.size
      have HK0 := hid hk0
      clear hk0 HX0 HB0 HS0
      generalize hz : wr = wz at *
      obtain ⟨X, hX⟩ : ∃ X, wz.heap.size = X := ⟨_, rfl⟩
      have hbX : b1 < X := by omega
      have HBW := hid hBw.out
      have HO := hid hO.out
      rw [hX] at HK0 hwz ⊢
      clear hz hO hBw
      go_loopw [6, 7] (fun cv kv wr2 => ∃ (k : Nat) (cl : Int), cv = .int .i64 cl ∧ kv = .int .i64 (k : Int) ∧ k ≤ row.length ∧ Hid (cl = colAt 1 (row.take k)) ∧ Hid (PIn X ((i : Int) + 1) wz wr2 (colsM 1 (row.take k)))) (fun _ kv _ => row.length - (RowKit.intOf kv).toNat)
      case atStart => exact ⟨0, 1, rfl, rfl, Nat.zero_le _, hid rfl, hid HK0.out⟩
      case round =>
        obtain ⟨k, cl, rfl, rfl, hk, hcl, hP⟩ := hrel
        obtain ⟨⟨Ax, cx, hxb, hxr⟩, hPb⟩ := hP.out
        have kc : ∀ b o : Nat, b < w.heap.size → wr.cell? ⟨b, o, none⟩ = wz.cell? ⟨b, o, none⟩ := fun b o hb => hPb.cell (p := ⟨b, o, none⟩) (by show b < X; omega)
        have g2 : wr.cell? ⟨b1, o1 + i, none⟩ = some (.slice A1 row.length c1) := by rw [kc b1 _ hb1]; exact g1
        have cx0 : wr.cell? ⟨X, 0, none⟩ = some (.int .i64 ((i : Int) + 1)) := by rw [Lib.cell_of_heap hxb]; rfl
        have cx1 : wr.cell? ⟨X, 1, none⟩ = some (.slice Ax (colsM 1 (row.take k)).length cx) := by rw [Lib.cell_of_heap hxb]; rfl
        have fx1 : wr.frozen? ⟨X, 1, none⟩ = false := by simp [World.frozen?, hxb]
        by_cases hlk : k < row.length
        · have hlkz : (k : Int) < (row.length : Int) := by omega
          obtain ⟨b2, o2, rfl, hb2, g3⟩ := S1.out.at_ hlk
          have hXs : X < wr.heap.size := (Array.getElem?_eq_some_iff.1 hxb).1
          have hb1s : b1 < wr.heap.size := by omega
          have hb2s : b2 < wr.heap.size := by omega
          have g3' : wr.cell? ⟨b2, o2 + k, none⟩ = some (.string (ba row[k])) := by rw [kc b2 _ hb2]; exact g3
          obtain ⟨str, hstr⟩ : ∃ t, row[k] = t := ⟨_, rfl⟩
          rw [hstr] at g3'
          have hnk : (colsM 1 (row.take k)).length = k := by rw [colsM_len, List.length_take]; omega
          have hslen := HSL.out str (by rw [← hstr]; exact List.getElem_mem hlk)
          have hcols : colsM 1 (row.take (k + 1)) = colsM 1 (row.take k) ++ [(str, cl, false)] := by rw [List.take_succ_eq_append_getElem hlk, colsM_app, hstr, hcl.out]; rfl
          have hcl2 : colAt 1 (row.take (k + 1)) = cl + ((str.length : Int) + 1) := by rw [List.take_succ_eq_append_getElem hlk, colAt_snoc, hstr, hcl.out]
          have hclr := colAt_range 1 (row.take k) (fun s hs => HSL.out s (List.mem_of_mem_take hs))
          rw [← hcl.out, List.length_take] at hclr
          unfold FieldRow at hxr
          rw [hnk] at hxr cx1 hxb
          have HXB := hid hxb
          obtain ⟨L0, hL0⟩ : ∃ L0, colsM 1 (row.take k) = L0 := ⟨_, rfl⟩
          rw [hL0] at hxr hcols
          have HXR := hid hxr
          have HM : Hid (k + 1 ≤ maxLen) := hid (by unfold maxLen; omega)
          have HM2 : Hid ((k + 1) * 32 ≤ 140737488355328) := hid (by omega)
          have HCO := hid hcols
          have HC2 := hid hcl2
          have hwq : IntKind.i64.wrap ((k : Int) + 1) = (k : Int) + 1 := IntWalk.i64_in _ (by omega)
          have hsz : (ba str).size = str.length := Lib.size_eq _
          have HL0 : Hid (L0.length = k) := hid (by rw [← hL0]; exact hnk)
          have HPB := hid hPb
          have G3 : Hid (wz.cell? ⟨b2, o2 + k, none⟩ = some (.string (ba str))) := hid (by rw [← hstr]; exact g3)
          clear hxr hcols hcl2 kc g3 hnk hL0
          obtain ⟨z, hzs⟩ : ∃ z, ba str = z := ⟨_, rfl⟩
          rw [hzs] at g3' hsz G3
          have HZS := hid hzs
          clear hzs
          have HFN : Hid (∀ (w : World) (j : Nat) (u : Value), (fieldVs (str, cl, false))[j]? = some u → (w.alloc (.cells #[.string z, .int .i64 cl, .bool false] 99)).cell? ((⟨w.heap.size, 0, none⟩ : Addr).add j) = some u) := hid (fun w j u h => by
            have e := heap_alloc_new w (.cells #[.string z, .int .i64 cl, .bool false] 99)
            rw [Addr.add_lit, Lib.cell_of_heap e]
            match j, h with
            | 0, h => rw [← HZS.out]; exact h
            | 1, h => exact h
            | 2, h => exact h
            | j + 3, h => simp [fieldVs] at h)
          have HF1 : Hid (∀ u ∈ fieldVs (str, cl, false), u.oneCell' = true) := hid (fun u hu => by
            simp [fieldVs] at hu
            rcases hu with rfl | rfl | rfl <;> rfl)
          go_wp2_with fail
          go_region_law (
            (refine step_append_lies _ ?_ (.tmp 27) (.tmp 37) 24 ?_ (X + 1) 99 iF (.agg #[.string ⟨#[]⟩, .int .i64 0, .bool false]) 3 32 Tryz.underlying24 hiF hzF hsF hbF ?_ ?_ (.slice Ax k cx) k (fieldVals L0) ?_ ?_ ⟨wr.heap.size, 0, none⟩ 1 1 (fieldVs (str, cl, false)) ?_ ?_ ?_ ?_ (by decide) HM.out HM2.out ?_ (wr.heap.size + 1) ?_ ?_
             · rfl
             · rfl
             · rfl
             · decide
             · simp [Act.eval]
             · exact row_drawn (World.ownsRow.alloc HXR.out _) 1
             · simp [Act.eval]
             · rfl
             · exact HFN.out wr
             · exact HF1.out
             · simp; omega
             · simp
             intro g7 cap7 w7 hown7 hgrow7 hat7 hlt7
             have HOW := hid hown7
             have HGR := hid hgrow7
             have HAT := hid hat7
             have hgw : wr.grownBy w7 (Value.slice Ax k cx).ownBlock := ⟨hgrow7.os, hgrow7.tape, hgrow7.output, by have := hgrow7.size; simp at this; omega, fun j hj hr => (hgrow7.block j (by simp; omega) hr).trans (Below.heap_alloc wr _ j hj)⟩
             have hx7 : w7.heap[X]? = some (.cells #[.int .i64 ((i : Int) + 1), .slice Ax k cx] 26 (0, 0)) := (hgrow7.block X (by simp; omega) (fun e => by have := (World.ownsRow.lt HXR.out X e.symm).1; omega)).trans ((Below.heap_alloc wr _ X hXs).trans HXB.out)
             have c71 : w7.cell? ⟨X, 1, none⟩ = some (.slice Ax k cx) := by rw [Lib.cell_of_heap hx7]; rfl
             have f71 : w7.frozen? ⟨X, 1, none⟩ = false := by simp [World.frozen?, hx7]
             have HX7 := hid hx7
             have hP8 := PIn.snoc HPB.out HXR.out hgw hx7 hown7 HL0.out hXs
             have HP8 := hid hP8
             clear hown7 hgrow7 hat7 hx7 hgw hP8 HGR HOW HAT HX7))
          all_goals
            obtain ⟨w8, h8⟩ : ∃ w8, w7.setCell ⟨X, 1, none⟩ (.slice (some ⟨g7, 0, none⟩) (k + 1) cap7) = w8 := ⟨_, rfl⟩
            rw [h8] at HP8 ⊢
            clear h8
            have kc8 : ∀ b o : Nat, b < w.heap.size → w8.cell? ⟨b, o, none⟩ = wz.cell? ⟨b, o, none⟩ := fun b o hb => HP8.out.b.cell (p := ⟨b, o, none⟩) (by show b < X; omega)
            have g28 : w8.cell? ⟨b1, o1 + i, none⟩ = some (.slice (some ⟨b2, o2, none⟩) row.length c1) := by rw [kc8 b1 _ hb1]; exact g1
            have g38 : w8.cell? ⟨b2, o2 + k, none⟩ = some (.string z) := by rw [kc8 b2 _ hb2]; exact G3.out
            have hq1 : IntKind.i64.wrap ((z.size : Int) + 1) = (z.size : Int) + 1 := IntWalk.i64_in _ (by omega)
            have hq2 : IntKind.i64.wrap (cl + ((z.size : Int) + 1)) = cl + ((z.size : Int) + 1) := IntWalk.i64_in _ (by omega)
            clear kc8
            go_wp2
            refine ⟨⟨k + 1, _, rfl, by go_num, by omega, hid HC2.out.symm, hid ?_⟩, by simp [RowKit.intOf]; omega⟩
            rw [HCO.out]
            exact HP8.out
        · have hkr : k = row.length := by omega
          subst hkr
          rw [List.take_of_length_le (Nat.le_refl _)] at hcl hxr hxb cx1
          rw [colsM_len] at cx1 hxb hxr
          have hlkz : ¬ ((row.length : Int) < (row.length : Int)) := by omega
          have hXs : X < wr.heap.size := (Array.getElem?_eq_some_iff.1 hxb).1
          have hb1s : b1 < wr.heap.size := by omega
          obtain ⟨L, hL, ho, hr⟩ := HO.out
          have hLl : L.length = i := by
            have := congrArg List.length hL
            rw [List.length_map, plainM_len, List.length_take] at this
            omega
          have hno : no = i := by
            rcases ho.2 with ⟨hv, h0⟩ | ⟨g, cap, cur, hv, _⟩
            · injection hv with _ h1 _; omega
            · injection hv with _ h1 _; omega
          subst hno
          rw [hLl] at ho
          have ho2 : wr.ownsRow w.heap.size 26 2 (.slice Ao no co) no (recVals L) := row_under ho (by rw [hX]; exact hPb)
          have HO2 := hid ho2
          have HL := hid hL
          have HLl := hid hLl
          have HRR := hid hr
          have HOZ := hid ho
          have HM : Hid (no + 1 ≤ maxLen) := hid (by unfold maxLen; omega)
          have HM2 : Hid ((no + 1) * 32 ≤ 140737488355328) := hid (by omega)
          have HXR := hid hxr
          have HPB := hid hPb
          have HSZ : Hid (∀ o : Obj, w.heap.size ≤ (wr.alloc o).heap.size) := hid (fun o => by simp; omega)
          have HNW : Hid (∀ (j : Nat) (u : Value), ([Value.int .i64 ((no : Int) + 1), .slice Ax row.length cx] : List Value)[j]? = some u → (wr.alloc (.cells #[.int .i64 ((no : Int) + 1), .slice Ax row.length cx] 26)).cell? ((⟨wr.heap.size, 0, none⟩ : Addr).add j) = some u) := hid (fun j u h => by
            have e := heap_alloc_new wr (.cells #[.int .i64 ((no : Int) + 1), .slice Ax row.length cx] 26)
            rw [Addr.add_lit, Lib.cell_of_heap e]
            match j, h with
            | 0, h => exact h
            | 1, h => exact h
            | j + 2, h => simp at h)
          have HN1 : Hid (∀ u ∈ ([Value.int .i64 ((no : Int) + 1), .slice Ax row.length cx] : List Value), u.oneCell' = true) := hid (fun u hu => by
            simp at hu
            rcases hu with rfl | rfl <;> rfl)
          clear ho2 hL hr ho hxr hPb hLl kc
          go_wp2_with (at_builtin; refine wpList_append_own_at _ rfl _ _ 23 rfl w.heap.size 26 iR (.agg #[.int .i64 0, .slice none 0 0]) 2 32 Tryz.underlying23 hiR hzR hsR hbR rfl (by decide) _ no (recVals L) rfl (World.ownsRow.alloc HO2.out _) ⟨wr.heap.size, 0, none⟩ 1 1 [.int .i64 ((no : Int) + 1), .slice Ax row.length cx] rfl rfl HNW.out HN1.out HM.out HM2.out (HSZ.out _) ?_)
          intro v' w9 hown9 hgrow9 hnil9 hat9
          obtain ⟨g', cap', rfl⟩ := ownsRow_succ (k := no) hown9
          have hg9 := grownBy_of_alloc hgrow9
          have hrv : recVs ((((no : Int) + 1, colsM 1 row), (Ax, cx)) : RecA) = [.int .i64 ((no : Int) + 1), .slice Ax row.length cx] := by simp [recVs, colsM_len]
          have hsn := RecRow.snoc (x := ((no : Int) + 1, colsM 1 row)) HL.out HOZ.out HRR.out HLl.out hX (by omega) HPB.out (by have h := HXR.out; rw [← colsM_len 1 row] at h; exact h) hg9 (hat9.imp id (fun h => ⟨_, h, by simp⟩)) (by rw [hrv]; exact hown9)
          rw [← HST.out] at hsn
          have hb9 : Below w.heap.size w w9 := (HBW.out.trans (HPB.out.mono (by omega))).grown hg9 (by omega) (fun j e => by have := (World.ownsRow.lt HO2.out j e).1; omega)
          have HSN := hid hsn
          have HB9 := hid hb9
          clear hsn hb9 hg9 hown9 hgrow9 hnil9 hat9 hrv
          go_wp2
          exact ⟨⟨no + 1, _, _, _, rfl, by go_num, by omega, HSN, HB9⟩, by simp [RowKit.intOf]; omega⟩
    · have hltz : ¬ (i : Int) < (rows.length : Int) := by omega
      have HO2 : Hid (RecRow wr w.heap.size (.slice Ao no co) (plainM rows)) := hid (by have := hO.out; rwa [List.take_of_length_le (by omega)] at this)
      go_wp2
      go_ret
      exact ⟨⟨_, rfl, HO2.out⟩, hBw.out⟩
end Go.Proofs.YtdpfpkhbcdefmaaGreatDoor

set_option linter.unusedVariables false
namespace Go.Proofs.YtdpfpkhbcdefmaaGreatDoor.S12
open Go Go.Proofs Go.RowKit Go.Lib Go.Proofs.YtdpfpkhbcdefmaaGreatDoor Go.Proofs.YtdpfpkhbcdefmaaGreatDoor.S10

def awR1 : List Str := [[115, 49], [65], [50], []]
def awR2 : List Str := [[115, 49], [66], [49], [67]]
def awQ1 : ReqD := ⟨[115, 49], [65], 2, []⟩
def awQ2 : ReqD := ⟨[115, 49], [66], 1, [[67]]⟩
theorem awRows : [awR1, awR2] = [awQ1, awQ2].map rowQ := by kernel_rfl
theorem awRead : recsM (plainM [awR1, awR2]) = ([awQ1, awQ2], []) := by
  rw [awRows]
  refine recs_rowQ (by decide) (by decide) (fun r hr => ?_)
  simp only [List.mem_cons, List.not_mem_nil, or_false] at hr
  rcases hr with rfl | rfl <;> decide +kernel
theorem awWant : wantM [awQ1, awQ2] [115, 49] = [awQ2, awQ1] := by kernel_rfl
theorem awLen : (wantF [awQ1, awQ2] [115, 49]).length = 2 := by kernel_rfl
theorem awSize : ∀ x ∈ plainM [awR1, awR2], ∀ f ∈ x.2, f.1.length < 4294967281 := fun x hx f hf => by
  obtain ⟨r, hr, hfr⟩ := plainM_memQ hx f hf
  simp only [List.mem_cons, List.not_mem_nil, or_false] at hr
  have : f.1.length ≤ 2 := by
    rcases hr with rfl | rfl
    · simp only [awR1, List.mem_cons, List.not_mem_nil, or_false] at hfr
      rcases hfr with h | h | h | h <;> rw [h] <;> decide
    · simp only [awR2, List.mem_cons, List.not_mem_nil, or_false] at hfr
      rcases hfr with h | h | h | h <;> rw [h] <;> decide
  omega
theorem aw_rows (w : World) : ∃ w2, w2 = ((w.alloc (.cells #[.string ⟨#[115, 49]⟩, .string ⟨#[65]⟩, .string ⟨#[50]⟩, .string ⟨#[]⟩] 9)).alloc (.cells #[.string ⟨#[115, 49]⟩, .string ⟨#[66]⟩, .string ⟨#[49]⟩, .string ⟨#[67]⟩] 9)).alloc (.cells #[.slice (some ⟨w.heap.size, 0, none⟩) 4 4, .slice (some ⟨w.heap.size + 1, 0, none⟩) 4 4] 40) ∧
    RowsIn w2 (fun k => k < w.heap.size + 3) (some ⟨w.heap.size + 2, 0, none⟩) [awR1, awR2] ∧ Below w.heap.size w w2 ∧ w2.heap.size = w.heap.size + 3 := by
  refine ⟨_, rfl, ?_, (((Below.refl _ w).alloc (Nat.le_refl _) _).alloc (by simp) _).alloc (by simp; omega) _, by simp⟩
  have e1 := heap_alloc_new w (.cells #[.string ⟨#[115, 49]⟩, .string ⟨#[65]⟩, .string ⟨#[50]⟩, .string ⟨#[]⟩] 9)
  have hs : (w.alloc (.cells #[.string ⟨#[115, 49]⟩, .string ⟨#[65]⟩, .string ⟨#[50]⟩, .string ⟨#[]⟩] 9)).heap.size = w.heap.size + 1 := by simp
  generalize w.alloc (.cells #[.string ⟨#[115, 49]⟩, .string ⟨#[65]⟩, .string ⟨#[50]⟩, .string ⟨#[]⟩] 9) = w1 at e1 hs ⊢
  have e2 := heap_alloc_new w1 (.cells #[.string ⟨#[115, 49]⟩, .string ⟨#[66]⟩, .string ⟨#[49]⟩, .string ⟨#[67]⟩] 9)
  have e3 := (Below.heap_alloc w1 (.cells #[.string ⟨#[115, 49]⟩, .string ⟨#[66]⟩, .string ⟨#[49]⟩, .string ⟨#[67]⟩] 9) w.heap.size (by omega)).trans e1
  have hs2 : (w1.alloc (.cells #[.string ⟨#[115, 49]⟩, .string ⟨#[66]⟩, .string ⟨#[49]⟩, .string ⟨#[67]⟩] 9)).heap.size = w.heap.size + 2 := by simp [hs]
  rw [hs] at e2
  generalize w1.alloc (.cells #[.string ⟨#[115, 49]⟩, .string ⟨#[66]⟩, .string ⟨#[49]⟩, .string ⟨#[67]⟩] 9) = w2 at e2 e3 hs2 ⊢
  have e4 := heap_alloc_new w2 (.cells #[.slice (some ⟨w.heap.size, 0, none⟩) 4 4, .slice (some ⟨w.heap.size + 1, 0, none⟩) 4 4] 40)
  have e5 := (Below.heap_alloc w2 (.cells #[.slice (some ⟨w.heap.size, 0, none⟩) 4 4, .slice (some ⟨w.heap.size + 1, 0, none⟩) 4 4] 40) w.heap.size (by omega)).trans e3
  have e6 := (Below.heap_alloc w2 (.cells #[.slice (some ⟨w.heap.size, 0, none⟩) 4 4, .slice (some ⟨w.heap.size + 1, 0, none⟩) 4 4] 40) (w.heap.size + 1) (by omega)).trans e2
  rw [hs2] at e4
  refine .inr ⟨w.heap.size + 2, 0, rfl, by omega, fun j l hj => ?_⟩
  match j, hj with
  | 0, hj =>
    obtain rfl : awR1 = l := by simpa using hj
    refine ⟨some ⟨w.heap.size, 0, none⟩, 4, by rw [Lib.cell_of_heap e4]; rfl, by decide, by decide, .inr ⟨w.heap.size, 0, rfl, by omega, fun j s hj => ?_⟩⟩
    match j, hj with
    | 0, hj => obtain rfl : [115, 49] = s := by simpa [awR1] using hj
               rw [Lib.cell_of_heap e5]; rfl
    | 1, hj => obtain rfl : [65] = s := by simpa [awR1] using hj
               rw [Lib.cell_of_heap e5]; rfl
    | 2, hj => obtain rfl : [50] = s := by simpa [awR1] using hj
               rw [Lib.cell_of_heap e5]; rfl
    | 3, hj => obtain rfl : [] = s := by simpa [awR1] using hj
               rw [Lib.cell_of_heap e5]; rfl
    | j + 4, hj => simp [awR1] at hj
  | 1, hj =>
    obtain rfl : awR2 = l := by simpa using hj
    refine ⟨some ⟨w.heap.size + 1, 0, none⟩, 4, by rw [Lib.cell_of_heap e4]; rfl, by decide, by decide, .inr ⟨w.heap.size + 1, 0, rfl, by omega, fun j s hj => ?_⟩⟩
    match j, hj with
    | 0, hj => obtain rfl : [115, 49] = s := by simpa [awR2] using hj
               rw [Lib.cell_of_heap e6]; rfl
    | 1, hj => obtain rfl : [66] = s := by simpa [awR2] using hj
               rw [Lib.cell_of_heap e6]; rfl
    | 2, hj => obtain rfl : [49] = s := by simpa [awR2] using hj
               rw [Lib.cell_of_heap e6]; rfl
    | 3, hj => obtain rfl : [67] = s := by simpa [awR2] using hj
               rw [Lib.cell_of_heap e6]; rfl
    | j + 4, hj => simp [awR2] at hj
  | j + 2, hj => simp at hj
set_option maxHeartbeats 16000000 in
set_option maxRecDepth 100000 in
theorem awake_any (w : World) (hE : S3.Env w) : Calls Tryz.prog 7 #[] w (Says (.bool true) w) := by
  obtain ⟨w2, hw2, hrows, hb2, hs2⟩ := aw_rows w
  have cP := plain_any (some ⟨w.heap.size + 2, 0, none⟩) [awR1, awR2] 2 (w.heap.size + 3) w2 (by omega) hrows (by decide) (by decide) (by decide)
  have CP := hid cP
  have HB2 := hid hb2
  have HW2 := hid hw2
  clear cP hb2 hrows hw2
  unfold Says
  go_enter Tryz.func7, Tryz.ntmps7
  go_wp2_with fail
  rw [← HW2.out]
  refine CP.out.mono ?_
  rintro e w3 ⟨⟨v, rfl, hrr⟩, hb3⟩
  obtain ⟨A3, c3, rfl, hl3, hc3, hrin⟩ := hrr.recsIn
  have hB3 : Below w.heap.size w w3 := HB2.out.trans (hb3.mono HB2.out.size)
  have cR := qread_any A3 (plainM [awR1, awR2]) c3 w3 (hrin.mono (fun k hk => hk.2)) (by rw [plainM_len]; decide) awSize (hE.below hB3)
  rw [awRead, plainM_len] at cR
  rw [plainM_len]
  unfold ReadOut at cR
  have CR := hid cR
  have HB3 := hid hB3
  clear cR hB3 hb3 hl3 hrin hrr hE HB2 CP HW2 hs2
  go_wp2_with fail
  refine CR.out.mono ?_
  rintro e w5 ⟨v1, v2, rfl, hrm, hpr, hb5⟩
  obtain ⟨A4, c4, rfl, hl4, hc4, hin4⟩ := hrm.reqsIn
  have hv2 : ∃ A5 c5, v2 = .slice A5 0 c5 := by
    rcases hpr.2 with ⟨hv, _⟩ | ⟨g, cap, cur, hv, _⟩
    · exact ⟨_, _, hv⟩
    · exact ⟨_, _, hv⟩
  obtain ⟨A5, c5, rfl⟩ := hv2
  have hB5 : Below w.heap.size w w5 := HB3.out.trans (hb5.mono HB3.out.size)
  have hin5 : ReqsIn w5 (fun k => k < w5.heap.size) A4 [awQ1, awQ2] := hin4.mono (fun k hk => by rcases hk with h | h <;> exact h.2)
  have cW := wanted_any A4 [awQ1, awQ2] c4 ⟨#[115, 49]⟩ w5 hin5 (by decide) (fun r hr => by
    simp only [List.mem_cons, List.not_mem_nil, or_false] at hr
    rcases hr with rfl | rfl <;> decide) (by rw [show lst (⟨#[115, 49]⟩ : ByteArray) = [115, 49] from rfl, awLen]; exact said_small (by decide))
  rw [show lst (⟨#[115, 49]⟩ : ByteArray) = [115, 49] from rfl, awWant] at cW
  unfold WantOut at cW
  have CW := hid cW
  have HB5 := hid hB5
  clear cW hB5 hin5 hrm hpr hb5 hin4 CR HB3
  simp only [List.length_cons, List.length_nil, Nat.zero_add, Nat.reduceAdd] at hl4 CW ⊢
  go_wp2_with fail
  refine CW.out.mono ?_
  rintro e w6 ⟨⟨v6, rfl, hr6⟩, hb6⟩
  obtain ⟨A6, c6, rfl, hl6, hc6, hin6⟩ := hr6.reqsIn
  obtain ⟨b, off, q, rfl, hPb, hrq, z0, z1, z2, z3⟩ := hin6.at_ (k := 0) (by decide)
  simp only [List.getElem_cons_zero, Nat.zero_mul, Nat.add_zero] at hrq z0 z1 z2 z3
  rw [show ba awQ2.c = ⟨#[66]⟩ from rfl] at z1
  have HB6 := hid (HB5.out.trans (hb6.mono HB5.out.size))
  clear hr6 hin6 hb6 hPb hrq z0 z2 z3 CW HB5
  simp only [List.length_cons, List.length_nil, Nat.zero_add, Nat.reduceAdd] at hl6 ⊢
  go_wp2
  go_ret
  exact ⟨rfl, HB6.out⟩
end Go.Proofs.YtdpfpkhbcdefmaaGreatDoor.S12

