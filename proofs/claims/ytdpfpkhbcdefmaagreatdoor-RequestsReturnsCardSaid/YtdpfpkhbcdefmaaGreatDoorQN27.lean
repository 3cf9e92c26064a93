/-
  The walk of RequestsReturns. Conditions: the numbers lie in memory as a slice of ints; the variables hold what their text lays.
-/
import Derived.Test.YtdpfpkhbcdefmaaGreatDoorQN01
import Derived.Test.YtdpfpkhbcdefmaaGreatDoorQN02
import Derived.Test.YtdpfpkhbcdefmaaGreatDoorQN03
import Derived.Test.YtdpfpkhbcdefmaaGreatDoorQN04
import Derived.Test.YtdpfpkhbcdefmaaGreatDoorQN05
import Derived.Test.YtdpfpkhbcdefmaaGreatDoorQN06
import Derived.Test.YtdpfpkhbcdefmaaGreatDoorQN07
import Derived.Test.YtdpfpkhbcdefmaaGreatDoorQN08
import Derived.Test.YtdpfpkhbcdefmaaGreatDoorQN09
import Derived.Test.YtdpfpkhbcdefmaaGreatDoorQN10
import Derived.Test.YtdpfpkhbcdefmaaGreatDoorQN11
import Derived.Test.YtdpfpkhbcdefmaaGreatDoorQN12
import Derived.Test.YtdpfpkhbcdefmaaGreatDoorQN13
import Derived.Test.YtdpfpkhbcdefmaaGreatDoorQN14
import Derived.Test.YtdpfpkhbcdefmaaGreatDoorQN15
import Derived.Test.YtdpfpkhbcdefmaaGreatDoorQN16
import Derived.Test.YtdpfpkhbcdefmaaGreatDoorQN17
import Derived.Test.YtdpfpkhbcdefmaaGreatDoorQN18
import Derived.Test.YtdpfpkhbcdefmaaGreatDoorQN19
import Derived.Test.YtdpfpkhbcdefmaaGreatDoorQN20
import Derived.Test.YtdpfpkhbcdefmaaGreatDoorQN21
import Derived.Test.YtdpfpkhbcdefmaaGreatDoorQN22
import Derived.Test.YtdpfpkhbcdefmaaGreatDoorQN23
import Derived.Test.YtdpfpkhbcdefmaaGreatDoorQN24
import Derived.Test.YtdpfpkhbcdefmaaGreatDoorQN25
import Derived.Test.YtdpfpkhbcdefmaaGreatDoorQN26
import Derived.Test.YtdpfpkhbcdefmaaGreatDoorProg
import Derived.WalkKit
import Derived.WalkSpells
import Derived.WalkLawsBesides
import Derived.Lib.Hide
import Derived.Deep.QuietTactic
import Derived.BigQuiet
import Derived.Laws.Rows
import Derived.OwnWalk
import Derived.Lib.BufferWrite
import Derived.Lib.UnsafeStr
import Derived.Laws.IdiomStrings
import Derived.Laws.BytesArg
import Derived.Laws.BytesString
import Derived.Laws.OwnMore
import Derived.Lib.IndexLaws
import Derived.Lib.ItoaNum
import Derived.Lib.Atoi
import Derived.Lib.Bytealg
import Derived.RangeFuncNested
import Derived.RangeFuncBound
import Derived.RangeFuncCalls
import Derived.RangeFuncLeaves
import Derived.Shelf.Abstract
import Derived.Shelf.RegionOpen
import Derived.OwnWalkIn
import Derived.Lib.SlTrimSet
import Derived.Shelf.Strings.Builder1
import Derived.Shelf.Strings.Builder2
import Derived.Shelf.Strings.OnBuilder
import Derived.Shelf.Strings.Trim
import Derived.Shelf.Small.Utf8
import Derived.Shelf.Small.Bits
import Derived.Shelf.Small.Strs
import Derived.Shelf.Small.Wraps
import Derived.Shelf.Strings.BuilderF
import Derived.Shelf.Strings.BuilderK
import Derived.Shelf.Strings.Builder2Cap
import Derived.Shelf.Strconv.Atoi
import Derived.Shelf.Strconv.Itoa0
import Derived.Shelf.Strconv.Itoa1
import Derived.Shelf.LaysM
import Derived.Shelf.Strconv.Itoa2
import Derived.Shelf.Strconv.Itoa3
import Derived.Shelf.Strconv.AtoiErrFast
import Derived.Shelf.Strconv.ParseIntEmpty
import Derived.Shelf.Strconv.AtoiFail
import Derived.Shelf.Strconv.Clone
import Derived.Shelf.Strconv.SyntaxError
import Derived.Shelf.LaysC
import Derived.Shelf.Strconv.ToError
import Derived.Shelf.Strconv.AtoiErr
import Derived.Shelf.Strings.Search1
import Derived.Shelf.Strings.Search2
import Derived.Shelf.Strings.Search3
import Derived.Shelf.Strings.Cut
import Derived.Shelf.Strings.Shaped
import Derived.Shelf.Strings.Prefix
import Derived.Shelf.Strings.Runes
import Derived.Shelf.Strings.AsciiSet
import Derived.Shelf.Bits.Mul64
import Derived.Shelf.Strings.Repeat
import Derived.Shelf.Unicode.DecodeSlow
import Derived.Shelf.Strings.BuilderCap
import Derived.Shelf.Slices.Turned
import Derived.Ground.Names2Prog
import Derived.Shelf.Slices.Clone
import Derived.Ground.SlsfProg
import Derived.Shelf.SlSortCmp.Insertion
import Derived.Shelf.SlSortCmp.Insertion1
import Derived.Shelf.Strings.SlTrimAscii
import Derived.Lib.AtoiErrMem
import Derived.Handy
import Derived.Laws.ResultCell
import Derived.RegionTactic
import Derived.Lib.Repeat
import Derived.Deep.RegionHeld3
import Derived.Lib.SlicesS
import Derived.TacticsInMore
import Derived.LoopNIn
import Derived.LoopIn
import Derived.Laws.BitsAllLaws
import Derived.Laws.BitsLemmas
import Derived.Deep.MidRow
import Derived.Deep.DeepCutAuto
import Derived.Lib.Join
import Derived.Laws.Concat
import Derived.Laws.AppendOwn
import Derived.IntWalk
import Derived.Maps.OwnSet
import Derived.Maps.Range
import Derived.Deep.RegionLaw
import Derived.OneCell
import Derived.Laws.Tables
import Derived.Laws.CopyOwn
import Derived.OrdersHeld
import Derived.Deep.CutBlock
import Derived.Maps.AppendAt
import Derived.DeepKeys4
import Derived.Maps.OwnOps
import Derived.Maps.Ext
import Derived.Lib.QuietBelow
import Derived.Shelf.SlGeneric
import Derived.Shelf.SlSortCmp.NoneTotal
import Derived.Maps.RangeWalk
import Derived.Sort.KeysCollected
import Derived.Sort.OwnSorted
import Derived.Sort.WalkA
import Derived.Sort.LotA
import Derived.Deep.AppendLies
import Derived.Lib.AppendIntMem
import Derived.Lib.AppendZerosOnto
import Derived.Lib.SliceRun
import Derived.Deep.LoopGhost
import Derived.RangeFuncBox
import Derived.Lib.MinMax
import Derived.Deep.WholeRow
set_option linter.unusedVariables false
namespace Go.Proofs.YtdpfpkhbcdefmaaGreatDoor.S12
open Go Go.Proofs Go.RowKit Go.Lib Go.Proofs.YtdpfpkhbcdefmaaGreatDoor Go.Proofs.YtdpfpkhbcdefmaaGreatDoor.S10 Go.Proofs.YtdpfpkhbcdefmaaGreatDoor.S11

/-- What stands while the students' requests are counted. -/
structure RWI (w : World) (Al A8 As : Option Addr) (ls : List ReqD) (S : List Str) (W : World) : Prop where
  b : Below w.heap.size w W
  l : ReqsIn W (fun k => k < W.heap.size) Al ls
  m : ReqsIn W (fun k => k < W.heap.size) A8 ls
  s : S3.StrsIn W (fun k => k < W.heap.size) As S
theorem RWI.next {w W W' : World} {Al A8 As : Option Addr} {ls : List ReqD} {S : List Str} (h : RWI w Al A8 As ls S W) (hb : Below W.heap.size W W') : RWI w Al A8 As ls S W' :=
  ⟨h.b.trans (hb.mono h.b.size), (h.l.below hb).mono (fun k hk => Nat.lt_of_lt_of_le hk hb.size), (h.m.below hb).mono (fun k hk => Nat.lt_of_lt_of_le hk hb.size), (h.s.kept (fun k hk => hb.block k hk)).mono (fun k hk => Nat.lt_of_lt_of_le hk hb.size)⟩
theorem RWI.drawn {w W : World} {Al A8 As : Option Addr} {ls : List ReqD} {S : List Str} (h : RWI w Al A8 As ls S W) (q : Nat) : RWI w Al A8 As ls S (W.drewN q) := h.next (below_drawn (Below.refl _ W) q)

set_option maxHeartbeats 32000000 in
set_option maxRecDepth 100000 in
theorem returns_any (A : Option Addr) (L : List Int) (c FB fo fc : Nat) (hlen : L.length ≤ 9223372036854775807) (w : World) (hE : S3.Env w) (h : IntsIn w w.heap.size A L)
    (hf : FeatAt w FB fo fc) (hFB : FB < w.heap.size) :
    Calls Tryz.prog 5 #[.slice A L.length c] w fun e w' => e = .returned (.bool true) ∧ Below w.heap.size w w' := by
  have cL := light_any A L.length c w
  have hGf : 0 < w.heap.size := World.block_lt_of_cell? w _ hf.c0
  have HFT := hid (fun w' (hb : Below w.heap.size w w') => hf.kept (w' := w') (hb.block _ hGf) (hb.block _ hFB))
  have cK := hid (fun w' (hb : Below w.heap.size w w') => awake_any w' (hE.below hb))
  have cK' := cK.out
  unfold Says at cK'
  have cK := hid cK'
  have HE := hid (fun w' (hb : Below w.heap.size w w') => hE.below hb)
  clear cK' hf hE
  by_cases hl : L.length ≤ 400
  · rw [decide_eq_true hl] at cL
    have cR := hid (fun w h => roll_any A L c hl w h)
    have HI := hid h
    clear h
    go_enter Tryz.func5, Tryz.ntmps5
    go_wp2_with fail
    refine cL.mono ?_
    rintro e w' ⟨rfl, rfl⟩
    go_wp2_with fail
    refine (cR.out _ HI.out).mono ?_
    rintro e w1 ⟨rfl, hd1, hb1⟩
    have hgl := hd1.lt
    have HB : Hid (∀ W k, DE w1 w.heap.size c A L k W → Below w.heap.size w W) := hid (fun W k he => hb1.trans (he.toBelow (Nat.le_of_lt hgl) (Nat.le_refl _)))
    have cG := hid (grid_any w.heap.size c 0 A L w1 hd1)
    clear hd1 hb1 cL cR HI
    go_wp2_with fail
    refine cG.out.mono ?_
    rintro e w2 ⟨d, s, b, m, k2, rfl, hmg, he2⟩
    have g1 : 1 ≤ d ∧ d ≤ 5 := hmg.1
    have g2 : 2 ≤ s ∧ s ≤ 8 := hmg.2.1
    have CL : Hid (Calls Tryz.prog 25 #[.pointer (some ⟨w.heap.size, 0, none⟩), .agg #[.int .i64 d, .int .i64 s, .int .i64 b, .int .i64 m], .int .i64 1, .slice none 0 0, .int .i64 6] w2 fun e w' => ∃ (ls : List ClassD) (Al : Option Addr) (cl k : Nat), e = .returned (.slice Al ls.length cl) ∧ ls.length ≤ 6 ∧ (ls.length ≤ cl ∧ cl ≤ 9223372036854775807) ∧ ClassesOk d s 1 [] ls ∧ ClassesIn w' (fun k => w.heap.size < k ∧ k < w'.heap.size) Al ls ∧ DE w1 w.heap.size c A L k w') := hid (by
      refine (classes_any w.heap.size c k2 FB fo fc A L d s b m 1 6 (by omega) (by omega) (by omega) (by omega) (by omega) (by omega) (by omega) none [] 0 (by simp) w2 he2.d (.inl rfl) (HFT.out _ (HB.out _ _ he2)) hGf hFB).mono ?_
      rintro e w' ⟨ls, v, k', rfl, hl6, hok, hrow, he⟩
      obtain ⟨A5, c5, rfl, h1, h2, hin5⟩ := hrow.classesIn
      have hz2 : w.heap.size < w2.heap.size := Nat.lt_of_lt_of_le hgl he2.p.size
      exact ⟨ls, A5, c5, k', rfl, hl6, ⟨h1, h2⟩, hok, hin5.mono (fun k hk => by rcases hk with h | h; exact ⟨by omega, h.2⟩; exact ⟨by omega, h.2⟩), he2.trans he⟩)
    clear he2 cG hmg
    go_wp2_with fail
    refine CL.out.mono ?_
    rintro e w3 ⟨cls, Ac, cc, k3, rfl, hl6, hcc, hok, hcin, he3⟩
    have hCU := requests_any w.heap.size c k3 A L Ac cls cc (by omega) w3 he3.d (hcin.mono (fun k hk => hk.2))
    have HCU := hid hCU
    have HE3 := hid he3
    have HTH := hid (three_of hok)
    have HL6 := hid (And.intro hl6 hcc)
    obtain ⟨NC, hNC⟩ : ∃ F, cls.length = F := ⟨_, rfl⟩
    have HNC := hid hNC
    rw [hNC] at HCU ⊢
    clear hCU hcin he3 hl6 hok CL hNC hcc g1 g2 HFT
    go_wp2_with fail
    refine HCU.out.mono ?_
    rintro e w4 ⟨ls, v, k4, rfl, hlo, hlr, he4⟩
    obtain ⟨Al, cl, rfl, _, _, hlin⟩ := hlr.reqsIn
    have HB4 := hid (HB.out _ _ (HE3.out.trans he4))
    have HLIN : Hid (ReqsIn w4 (fun k => k < w4.heap.size) Al ls) := hid (hlin.mono (fun k hk => by rcases hk with h | h; exact h.2; exact h.2))
    obtain ⟨hval, hread, hsm, hl15, hsz20⟩ := reqs_back HTH.out hlo
    have HSZ := hid hsz20
    have cW := qwrite_any Al ls cl w4 HLIN.out (HE.out _ HB4.out)
    have hwr : writeQ ls = (ls.map rowQ, 0) := by unfold writeQ; rw [if_neg (by simp [hval])]
    rw [hwr] at cW
    have hrl : (ls.map rowQ).length = ls.length := List.length_map _
    have hpl : (plainM (ls.map rowQ)).length = ls.length := by rw [plainM_len, hrl]
    have hpsz : ∀ x ∈ plainM (ls.map rowQ), ∀ f ∈ x.2, f.1.length < 4294967281 := fun x hx f hf => by
      obtain ⟨r, hr, hfr⟩ := plainM_memQ hx f hf
      have := (hsm r hr).2 f.1 hfr
      omega
    obtain ⟨rows, hrows⟩ : ∃ R, ls.map rowQ = R := ⟨_, rfl⟩
    rw [hrows] at cW hread hsm hrl hpl hpsz
    have HP : Hid (∀ (W : World) (A6 : Option Addr) (c6 M6 : Nat), M6 ≤ W.heap.size → RowsIn W (fun k => k < M6) A6 rows → Calls Tryz.prog 31 #[.slice A6 ls.length c6] W fun e w' =>
        (∃ (A7 : Option Addr) (c7 : Nat), e = .returned (.slice A7 ls.length c7) ∧ RecsIn w' (fun k => k < w'.heap.size) A7 (plainM rows)) ∧ Below W.heap.size W w') := hid (fun W A6 c6 M6 hM hr => by
      have cP := plain_any A6 rows c6 M6 W hM hr (by omega) (fun r hr => by have := (hsm r hr).1; omega) (fun r hr x hx => by have := (hsm r hr).2 x hx; omega)
      rw [hrl] at cP
      refine cP.mono ?_
      rintro e w' ⟨⟨v, rfl, hrr⟩, hb⟩
      obtain ⟨A7, c7, rfl, _, _, hri⟩ := hrr.recsIn
      rw [hpl]
      exact ⟨⟨A7, c7, rfl, hri.mono (fun k hk => hk.2)⟩, hb⟩)
    have HRD : Hid (∀ (W : World) (A7 : Option Addr) (c7 : Nat), RecsIn W (fun k => k < W.heap.size) A7 (plainM rows) → Below w.heap.size w W → Calls Tryz.prog 10 #[.slice A7 ls.length c7] W fun e w' =>
        (∃ (A8 : Option Addr) (c8 : Nat) (A9 : Option Addr) (c9 : Nat), e = .returned (.tuple #[.slice A8 ls.length c8, .slice A9 0 c9]) ∧ ReqsIn w' (fun k => k < w'.heap.size) A8 ls) ∧ Below W.heap.size W w') := hid (fun W A7 c7 hr hb => by
      have cR := qread_any A7 (plainM rows) c7 W hr (by omega) hpsz (HE.out _ hb)
      rw [hread, hpl] at cR
      unfold ReadOut at cR
      refine cR.mono ?_
      rintro e w' ⟨v1, v2, rfl, hrm, hpr, hb'⟩
      obtain ⟨A8, c8, rfl, _, _, hin8⟩ := hrm.reqsIn
      have hv2 : ∃ A9 c9, v2 = .slice A9 0 c9 := by
        rcases hpr.2 with ⟨hv, _⟩ | ⟨g, cap, cur, hv, _⟩
        · exact ⟨_, _, hv⟩
        · exact ⟨_, _, hv⟩
      obtain ⟨A9, c9, rfl⟩ := hv2
      exact ⟨⟨A8, c8, A9, c9, rfl, hin8.mono (fun k hk => by rcases hk with h | h; exact h.2; exact h.2)⟩, hb'⟩)
    have HST : Hid (∀ (W : World), ReqsIn W (fun k => k < W.heap.size) Al ls → Calls Tryz.prog 18 #[.slice Al ls.length cl] W fun e w' =>
        (∃ (As : Option Addr) (cs : Nat), e = .returned (.slice As (studM ls).length cs) ∧ S3.StrsIn w' (fun k => k < w'.heap.size) As (studM ls)) ∧ Below W.heap.size W w') := hid (fun W hr => by
      have cS := students_any Al ls cl W hr (by omega) (fun r hr => by have := (HSZ.out r hr).1; unfold maxLen; omega)
      unfold S3.RowOut at cS
      refine cS.mono ?_
      rintro e w' ⟨⟨v, rfl, hrr⟩, hb⟩
      obtain ⟨As, cs, rfl, _, _, hri⟩ := hrr.strsIn
      exact ⟨⟨As, cs, rfl, hri.mono (fun k hk => hk.2)⟩, hb⟩)
    have HWA : Hid (∀ (W : World) (x : ByteArray), ReqsIn W (fun k => k < W.heap.size) Al ls → Calls Tryz.prog 20 #[.slice Al ls.length cl, .string x] W fun e w' =>
        (∃ (Aw : Option Addr) (cw : Nat), e = .returned (.slice Aw (wantM ls (lst x)).length cw) ∧ ReqsIn w' (fun k => k < w'.heap.size) Aw (wantM ls (lst x))) ∧ Below W.heap.size W w') := hid (fun W x hr => by
      have cS := wanted_any Al ls cl x W hr (by omega) (fun r hr => by have := (HSZ.out r hr).2; omega) (said_small (by
        have : (wantF ls (lst x)).length ≤ ls.length := List.length_filter_le _ _
        omega))
      unfold WantOut at cS
      refine cS.mono ?_
      rintro e w' ⟨⟨v, rfl, hrr⟩, hb⟩
      obtain ⟨Aw, cw, rfl, _, _, hri⟩ := hrr.reqsIn
      exact ⟨⟨Aw, cw, rfl, hri.mono (fun k hk => by rcases hk with h | h; exact h.2; exact h.2)⟩, hb⟩)
    have HSL := hid (studM_len ls)
    have HSS := hid (fun (x : Str) (hx : x ∈ studM ls) => (by obtain ⟨r, hr, e⟩ := (mem_studM ls x).1 hx; rw [← e]; exact (HSZ.out r hr).1 : x.length ≤ 20))
    have HWL := hid (fun s => (by rw [wantM_len]; exact List.length_filter_le _ _ : (wantM ls s).length ≤ ls.length))
    have HLN : Hid (ls.length ≤ 15) := hid hl15
    have HCNT := hid (cnt_studM ls)
    unfold WriteOut at cW
    have CW := hid cW
    have HRL := hid hrl
    obtain ⟨NL, hNL⟩ : ∃ F, ls.length = F := ⟨_, rfl⟩
    have HNL := hid hNL
    rw [hNL] at HP HRD HST HWA CW HRL hl15 HSL HWL HLN HCNT ⊢
    clear hval hread hsm cW hwr hrl hpl hpsz hrows hlo hlr he4 hlin HCU HE3 HB hgl hNL hsz20
    go_wp2_with fail
    refine CW.out.mono ?_
    rintro e w6 ⟨⟨v6, L6, hL6, rfl, hrr6⟩, hb6⟩
    obtain ⟨A6, c6, rfl, _, _, hri6⟩ := hrr6.rowsIn
    have hl6 : L6.length = NL := by rw [← HRL.out, ← hL6, List.length_map]
    rw [hL6] at hri6
    rw [hl6]
    have HRI6 : Hid (RowsIn w6 (fun k => k < w6.heap.size) A6 rows) := hid (hri6.mono (fun k hk => hk.2))
    have HB6 := hid (HB4.out.trans (hb6.mono HB4.out.size))
    have HLI6 := hid ((HLIN.out.below hb6).mono (fun k hk => Nat.lt_of_lt_of_le hk hb6.size))
    clear hrr6 hri6 hb6 hL6 hl6 CW HRL HLIN HB4
    go_wp2_with fail
    refine (HP.out w6 A6 c6 w6.heap.size (Nat.le_refl _) HRI6.out).mono ?_
    rintro e w7 ⟨⟨A7, c7, rfl, hrc⟩, hb7⟩
    have HRC := hid hrc
    have HB7 := hid (HB6.out.trans (hb7.mono HB6.out.size))
    have HL7 := hid ((HLI6.out.below hb7).mono (fun k hk => Nat.lt_of_lt_of_le hk hb7.size))
    clear hrc hb7 HB6 HLI6 HP HRI6
    go_wp2_with fail
    refine (HRD.out w7 A7 c7 HRC.out HB7.out).mono ?_
    rintro e w8 ⟨⟨A8, c8, A9, c9, rfl, hin8⟩, hb8⟩
    have HIN8 := hid hin8
    have HB8 := hid (HB7.out.trans (hb8.mono HB7.out.size))
    have HL8 := hid ((HL7.out.below hb8).mono (fun k hk => Nat.lt_of_lt_of_le hk hb8.size))
    clear hin8 hb8 HB7 HL7 HRD HRC
    go_wp2_with fail
    refine (HST.out w8 HL8.out).mono ?_
    rintro e w9 ⟨⟨As, cs, rfl, hss⟩, hb9⟩
    have HR9 : Hid (RWI w Al A8 As ls (studM ls) w9) := hid ⟨HB8.out.trans (hb9.mono HB8.out.size), (HL8.out.below hb9).mono (fun k hk => Nat.lt_of_lt_of_le hk hb9.size), (HIN8.out.below hb9).mono (fun k hk => Nat.lt_of_lt_of_le hk hb9.size), hss⟩
    obtain ⟨S, hS⟩ : ∃ S, studM ls = S := ⟨_, rfl⟩
    have HLE : Hid (∀ i, (h : i + 1 < S.length) → S3.cmpM S[i] S[i + 1] < 0) := hid (by subst hS; exact fun i h => studM_less ls h)
    rw [hS] at HSL HSS HR9 HCNT ⊢
    obtain ⟨SN, hSN⟩ : ∃ SN, S.length = SN := ⟨_, rfl⟩
    have HSN := hid hSN
    rw [hSN] at HSL ⊢
    have hsn15 := HSL.out
    clear hss hb9 HB8 HL8 HIN8 HST hS hSN HSZ
    go_wp2
    go_loopw [10, 11] (fun nv iv wr => ∃ i n : Nat, nv = .int .i64 (n : Int) ∧ iv = .int .i64 (i : Int) ∧ i ≤ SN ∧ n ≤ i * 15 ∧ Hid (cntQ (S.take i) ls = n) ∧ Hid (RWI w Al A8 As ls S wr)) (fun _ iv _ => SN - (RowKit.intOf iv).toNat)
    case atStart => exact ⟨0, 0, rfl, rfl, Nat.zero_le _, Nat.zero_le _, hid rfl, HR9⟩
    case round =>
      clear HR9
      obtain ⟨i, n, rfl, rfl, hi, hn15, hn, hR⟩ := hrel
      by_cases hlt : i < SN
      · have hltz : (i : Int) < (SN : Int) := by omega
        have hSN := HSN.out
        obtain ⟨sb, so, hAs, hsb, hsc⟩ := strs_at hR.out.s (k := i) (by omega)
        subst hAs
        have hmem : S[i]'(by omega) ∈ S := List.getElem_mem _
        have HTL := HSS.out _ hmem
        have hcnt : cntQ (S.take (i + 1)) ls = n + (wantM ls (S[i]'(by omega))).length := by
          rw [List.take_succ_eq_append_getElem (by omega), cnt_snoc, hn.out, wantM_len]
        have hWL := HWL.out (S[i]'(by omega))
        obtain ⟨T, hT⟩ : ∃ T, S[i]'(by omega) = T := ⟨_, rfl⟩
        have hprev : Hid (∀ i' (hii : i' + 1 = i), wr.cell? ⟨sb, so + i', none⟩ = some (.string (ba (S[i']'(by omega)))) ∧ S3.cmpM (S[i']'(by omega)) T < 0 ∧ (S[i']'(by omega)).length ≤ 20) := hid (fun i' e => by
          subst hT
          subst e
          obtain ⟨sb', so', hA', _, hc'⟩ := strs_at hR.out.s (k := i') (by omega)
          injection hA' with hA'
          injection hA' with e1 e2
          subst e1 e2
          exact ⟨hc', HLE.out i' (by omega), HSS.out _ (List.getElem_mem _)⟩)
        rw [hT] at hsc HTL hcnt hWL
        have CWA := hid (HWA.out wr (ba T) hR.out.l)
        rw [lst_ba] at CWA
        obtain ⟨Wn, hWn⟩ : ∃ Wn, wantM ls T = Wn := ⟨_, rfl⟩
        have HSO : Hid (∀ (k : Nat) (hk : k + 1 < Wn.length), (Wn[k]'(by omega)).p ≤ (Wn[k + 1]'hk).p) := hid (by subst hWn; exact fun k hk => wantM_sorted ls T hk)
        have HME : Hid (∀ r, r ∈ Wn → r.s = T) := hid (by subst hWn; exact fun r hr => wantM_mem hr)
        rw [hWn] at CWA hcnt hWL
        obtain ⟨NW, hNW⟩ : ∃ F, Wn.length = F := ⟨_, rfl⟩
        have HNW := hid hNW
        rw [hNW] at CWA hcnt hWL
        have HCN := hid hcnt
        obtain ⟨X, hX⟩ : ∃ X, ba T = X := ⟨_, rfl⟩
        have HX := hid hX
        have HSC := hid hsc
        rw [hX] at CWA hsc
        clear hcnt hmem hT hWn hNW hX
        go_wp2_with fail
        refine CWA.out.mono ?_
        rintro e w5 ⟨⟨Aw, cw, rfl, hwi⟩, hb5⟩
        have HWI := hid hwi
        have HR5 := hid (hR.out.next hb5)
        have hsc5 : w5.cell? ⟨sb, so + i, none⟩ = some (.string X) := (World.cell?_of_block (w := wr) (hb5.block sb hsb)).trans hsc
        have hprev5 : Hid (∀ i' (hii : i' + 1 = i), w5.cell? ⟨sb, so + i', none⟩ = some (.string (ba (S[i']'(by omega)))) ∧ S3.cmpM (S[i']'(by omega)) T < 0 ∧ (S[i']'(by omega)).length ≤ 20) := hid (fun i' e => by
          obtain ⟨h1, h2⟩ := hprev.out i' e
          exact ⟨(World.cell?_of_block (w := wr) (hb5.block sb hsb)).trans h1, h2⟩)
        clear hwi hb5 hprev hsc HSC hR CWA
        go_wp2
        go_loopw [13] (fun kv wx => ∃ k : Nat, kv = .int .i64 (k : Int) ∧ k ≤ NW ∧ Hid (∃ q, wx = w5.drewN q)) (fun kv _ => NW - (RowKit.intOf kv).toNat)
        case atStart => exact ⟨0, rfl, Nat.zero_le _, hid ⟨0, rfl⟩⟩
        case round =>
          obtain ⟨k, rfl, hk, HQ⟩ := hrel
          have hst : ∀ j, wr.heap[j]? = w5.heap[j]? := fun j => by obtain ⟨q, hq⟩ := HQ.out; rw [hq, S3.drewN_heap]
          have hsx : wr.cell? ⟨sb, so + i, none⟩ = some (.string X) := (World.cell?_of_block (w := w5) (hst sb)).trans hsc5
          by_cases hkl : k < NW
          · have hklz : (k : Int) < (NW : Int) := by omega
            have hNW := HNW.out
            obtain ⟨b1, o1, qq, hA1, _, _, a0, a1, a2, a3⟩ := (HWI.out.kept (w' := wr) (fun b _ => hst b)).at_ (k := k) (by omega)
            subst hA1
            rw [HME.out _ (List.getElem_mem _), HX.out] at a0
            by_cases hk0 : 0 < k
            · have hk0z : (0 : Int) < (k : Int) := by omega
              obtain ⟨k', hk'⟩ : ∃ k', k' + 1 = k := ⟨k - 1, by omega⟩
              have q1 : IntKind.i64.wrap ((k : Int) - 1) = (k' : Int) := by rw [show (k : Int) - 1 = (k' : Int) by omega]; exact IntWalk.i64_in _ (by omega)
              have q2 : (k : Int) - 1 = (k' : Int) := by omega
              have q3 : (k' : Int) < (NW : Int) := by omega
              have q4 : (0 : Int) ≤ (k' : Int) := by omega
              obtain ⟨b2, o2, qq2, hA2, _, _, c0, c1, c2, c3⟩ := (HWI.out.kept (w' := wr) (fun b _ => hst b)).at_ (k := k') (by omega)
              injection hA2 with hA2
              injection hA2 with e1 e2
              subst e1 e2
              have hle : (Wn[k']'(by omega)).p ≤ (Wn[k]'(by omega)).p := by
                subst hk'
                exact HSO.out k' (by omega)
              obtain ⟨p1, hp1⟩ : ∃ p, (Wn[k]'(by omega)).p = p := ⟨_, rfl⟩
              obtain ⟨p0, hp0⟩ : ∃ p, (Wn[k']'(by omega)).p = p := ⟨_, rfl⟩
              rw [hp1] at a2 hle
              rw [hp0] at c2 hle
              have dl : decide (p1 < p0) = false := decide_eq_false (by omega)
              have d1 : decide (NW ≤ k) = false := decide_eq_false (by omega)
              have d2 : decide (NW ≤ k') = false := decide_eq_false (by omega)
              have d3 : decide (SN ≤ i) = false := decide_eq_false (by omega)
              clear a1 a3 c0 c1 c3 hst hp1 hp0
              go_wp2
              go_quiet (fail)
              go_wp2
              go_roundw
              case rel => exact ⟨k + 1, by go_num, by omega, hid (by obtain ⟨q, hq⟩ := HQ.out; exact ⟨q + nq, by rw [hq, World.drewN_drewN]⟩)⟩
              case measure => simp [RowKit.intOf]; omega
            · obtain rfl : k = 0 := by omega
              have hk0z : ¬ (0 : Int) < ((0 : Nat) : Int) := by omega
              have d1 : decide (NW ≤ 0) = false := decide_eq_false (by omega)
              have d3 : decide (SN ≤ i) = false := decide_eq_false (by omega)
              simp only [Nat.zero_mul, Nat.add_zero] at a0 a2
              clear a1 a3 hst
              go_wp2
              go_quiet (fail)
              go_wp2
              go_roundw
              case rel => exact ⟨1, rfl, by omega, hid (by obtain ⟨q, hq⟩ := HQ.out; exact ⟨q + nq, by rw [hq, World.drewN_drewN]⟩)⟩
              case measure => simp [RowKit.intOf]; omega
          · have hklz : ¬ (k : Int) < (NW : Int) := by omega
            obtain rfl : k = NW := by omega
            have hnw : n + k ≤ (i + 1) * 15 := by have := HLN.out; omega
            have hqn : IntKind.i64.wrap ((n : Int) + (k : Int)) = (n : Int) + (k : Int) := IntWalk.i64_in _ (by omega)
            have HRX : Hid (RWI w Al A8 (some ⟨sb, so, none⟩) ls S wr) := hid (by obtain ⟨q, hq⟩ := HQ.out; rw [hq]; exact HR5.out.drawn q)
            by_cases hi0 : 0 < i
            · have hi0z : (0 : Int) < (i : Int) := by omega
              obtain ⟨i', hi'⟩ : ∃ i', i' + 1 = i := ⟨i - 1, by omega⟩
              have q1 : IntKind.i64.wrap ((i : Int) - 1) = (i' : Int) := by rw [show (i : Int) - 1 = (i' : Int) by omega]; exact IntWalk.i64_in _ (by omega)
              have q2 : (i : Int) - 1 = (i' : Int) := by omega
              have q3 : (i' : Int) < (SN : Int) := by omega
              have q4 : (0 : Int) ≤ (i' : Int) := by omega
              obtain ⟨h1, h2, h3⟩ := hprev5.out i' hi'
              have hc' : wr.cell? ⟨sb, so + i', none⟩ = _ := (World.cell?_of_block (w := w5) (hst sb)).trans h1
              have cC := fun q => S3.refCompare_any (ba (S[i']'(by omega))) X (by rw [Lib.size_eq]; show (S[i']'(by omega)).length ≤ _; omega) (by rw [← HX.out, Lib.size_eq]; show T.length ≤ _; omega) (wr.drewN q)
              rw [← HX.out] at cC
              simp only [show ∀ l : Str, S3.lst (ba l) = l from fun _ => rfl] at cC
              rw [HX.out] at cC
              obtain ⟨V, hV⟩ : ∃ V, S3.cmpM (S[i']'(by omega)) T = V := ⟨_, rfl⟩
              rw [hV] at h2 cC
              obtain ⟨Y, hY⟩ : ∃ Y, ba (S[i']'(by omega)) = Y := ⟨_, rfl⟩
              rw [hY] at hc' cC
              have CC := hid cC
              have dv : decide (0 ≤ V) = false := decide_eq_false (by omega)
              have dv2 : ¬ (0 ≤ V) := by omega
              have d1 : decide (SN ≤ i') = false := decide_eq_false (by omega)
              have d3 : decide (SN ≤ i) = false := decide_eq_false (by omega)
              clear h1 h3 hY hV cC hst
              go_wp2
              go_quiet ((go_at_call 32; with_reducible refine Calls.quiet_of (CC.out _)))
              go_wp2
              go_roundw
              case rel => exact ⟨i + 1, n + k, by go_num, by go_num, by omega, hnw, HCN, hid (HRX.out.drawn nq)⟩
              case measure => simp [RowKit.intOf]; omega
            · obtain rfl : i = 0 := by omega
              have hi0z : ¬ (0 : Int) < ((0 : Nat) : Int) := by omega
              clear hst
              go_wp2
              go_quiet (fail)
              go_wp2
              go_roundw
              case rel => exact ⟨1, n + k, by go_num, rfl, by omega, hnw, HCN, hid (HRX.out.drawn nq)⟩
              case measure => simp [RowKit.intOf]; omega
      · have hltz : ¬ (i : Int) < (SN : Int) := by omega
        obtain rfl : i = SN := by omega
        have hnl : n = NL := by
          have h1 := hn.out
          rw [List.take_of_length_le (by rw [HSN.out]; exact Nat.le_refl _), HCNT.out] at h1
          exact h1.symm
        subst hnl
        go_wp2_with fail
        refine (cK.out _ hR.out.b).mono ?_
        rintro e w9 ⟨rfl, hb9⟩
        have HR10 := hid (hR.out.next hb9)
        clear hb9 hR
        have cSM := qsame_any Al A8 ls cl c8 _ _ w9 HR10.out.l HR10.out.m (by rw [HNL.out]; have := HLN.out; omega)
        rw [HNL.out] at cSM
        have CSM := hid cSM
        clear cSM
        go_wp2_with fail
        refine CSM.out.mono ?_
        rintro e w10 ⟨rfl, q, rfl⟩
        have HBA := hid (HR10.out.drawn q).b
        clear HR10 CSM
        go_wp2
        go_ret
        exact ⟨rfl, HBA.out⟩
  · rw [decide_eq_false hl] at cL
    clear h
    go_enter Tryz.func5, Tryz.ntmps5
    go_wp2_with fail
    refine cL.mono ?_
    rintro e w' ⟨rfl, rfl⟩
    go_wp2_with fail
    refine (cK.out _ (Below.refl _ _)).mono ?_
    rintro e w2 ⟨rfl, hb2⟩
    have HB2 := hid hb2
    clear hb2
    go_wp2
    go_ret
    exact ⟨rfl, HB2.out⟩
end Go.Proofs.YtdpfpkhbcdefmaaGreatDoor.S12

