/-
  The walk of RequestsExact. Conditions: the requests and records lie in memory; the records' texts have at most 2097152 bytes; the variables hold what their text lays; what the stable sort does is given.
-/
import Derived.Test.YtlgmanbilaminaaGreatDoorXN01
import Derived.Test.YtlgmanbilaminaaGreatDoorXN02
import Derived.Test.YtlgmanbilaminaaGreatDoorXN03
import Derived.Test.YtlgmanbilaminaaGreatDoorXN04
import Derived.Test.YtlgmanbilaminaaGreatDoorXN05
import Derived.Test.YtlgmanbilaminaaGreatDoorXN06
import Derived.Test.YtlgmanbilaminaaGreatDoorXN07
import Derived.Test.YtlgmanbilaminaaGreatDoorXN08
import Derived.Test.YtlgmanbilaminaaGreatDoorXN09
import Derived.Test.YtlgmanbilaminaaGreatDoorXN10
import Derived.Test.YtlgmanbilaminaaGreatDoorXN11
import Derived.Test.YtlgmanbilaminaaGreatDoorXN12
import Derived.Test.YtlgmanbilaminaaGreatDoorXN13
import Derived.Test.YtlgmanbilaminaaGreatDoorXN14
import Derived.Test.YtlgmanbilaminaaGreatDoorXN15
import Derived.Test.YtlgmanbilaminaaGreatDoorXN16
import Derived.Test.YtlgmanbilaminaaGreatDoorXN17
import Derived.Test.YtlgmanbilaminaaGreatDoorXN18
import Derived.Test.YtlgmanbilaminaaGreatDoorXN19
import Derived.Test.YtlgmanbilaminaaGreatDoorXN20
import Derived.Test.YtlgmanbilaminaaGreatDoorXN21
import Derived.Test.YtlgmanbilaminaaGreatDoorXN22
import Derived.Test.YtlgmanbilaminaaGreatDoorXN23
import Derived.Test.YtlgmanbilaminaaGreatDoorXN24
import Derived.Test.YtlgmanbilaminaaGreatDoorXN25
import Derived.Test.YtlgmanbilaminaaGreatDoorXN26
import Derived.Test.YtlgmanbilaminaaGreatDoorXN27
import Derived.Test.YtlgmanbilaminaaGreatDoorXN28
import Derived.Test.YtlgmanbilaminaaGreatDoorXN29
import Derived.Test.YtlgmanbilaminaaGreatDoorXN30
import Derived.Test.YtlgmanbilaminaaGreatDoorXN31
import Derived.Test.YtlgmanbilaminaaGreatDoorXN32
import Derived.Test.YtlgmanbilaminaaGreatDoorProg
import Derived.WalkKit
import Derived.WalkSpells
import Derived.WalkLawsBesides
import Derived.Lib.Hide
import Derived.Deep.QuietTactic
import Derived.BigQuiet
import Derived.Laws.Rows
import Derived.OwnWalk
import Derived.Lib.BufferWrite
import Derived.Lib.UnsafeStr
import Derived.Laws.IdiomStrings
import Derived.Laws.BytesArg
import Derived.Laws.BytesString
import Derived.Laws.OwnMore
import Derived.Lib.IndexLaws
import Derived.Lib.ItoaNum
import Derived.Lib.Atoi
import Derived.Lib.Bytealg
import Derived.RangeFuncNested
import Derived.RangeFuncBound
import Derived.RangeFuncCalls
import Derived.RangeFuncLeaves
import Derived.Shelf.Abstract
import Derived.Shelf.RegionOpen
import Derived.OwnWalkIn
import Derived.Lib.SlTrimSet
import Derived.Shelf.Strings.Builder1
import Derived.Shelf.Strings.Builder2
import Derived.Shelf.Strings.OnBuilder
import Derived.Shelf.Strings.Trim
import Derived.Shelf.Small.Utf8
import Derived.Shelf.Small.Bits
import Derived.Shelf.Small.Strs
import Derived.Shelf.Small.Wraps
import Derived.Shelf.Strings.BuilderF
import Derived.Shelf.Strings.BuilderK
import Derived.Shelf.Strings.Builder2Cap
import Derived.Shelf.Strconv.Atoi
import Derived.Shelf.Strconv.Itoa0
import Derived.Shelf.Strconv.Itoa1
import Derived.Shelf.LaysM
import Derived.Shelf.Strconv.Itoa2
import Derived.Shelf.Strconv.Itoa3
import Derived.Shelf.Strconv.AtoiErrFast
import Derived.Shelf.Strconv.ParseIntEmpty
import Derived.Shelf.Strconv.AtoiFail
import Derived.Shelf.Strconv.Clone
import Derived.Shelf.Strconv.SyntaxError
import Derived.Shelf.LaysC
import Derived.Shelf.Strconv.ToError
import Derived.Shelf.Strconv.AtoiErr
import Derived.Shelf.Strings.Search1
import Derived.Shelf.Strings.Search2
import Derived.Shelf.Strings.Search3
import Derived.Shelf.Strings.Cut
import Derived.Shelf.Strings.Shaped
import Derived.Shelf.Strings.Prefix
import Derived.Shelf.Strings.Runes
import Derived.Shelf.Strings.AsciiSet
import Derived.Shelf.Bits.Mul64
import Derived.Shelf.Strings.Repeat
import Derived.Shelf.Unicode.DecodeSlow
import Derived.Shelf.Strings.BuilderCap
import Derived.Shelf.Slices.Turned
import Derived.Ground.Names2Prog
import Derived.Shelf.Slices.Clone
import Derived.Ground.SlsfProg
import Derived.Shelf.SlSortCmp.Insertion
import Derived.Shelf.SlSortCmp.SiftDown1
import Derived.Shelf.SlSortCmp.HeapSort1
import Derived.Shelf.SlSortCmp.Insertion1
import Derived.Shelf.SlSortCmp.Median1
import Derived.Shelf.SlSortCmp.Pivot1
import Derived.Shelf.SlSortCmp.ReverseRange1
import Derived.Shelf.SlSortCmp.PartialInsertion1
import Derived.Shelf.SlSortCmp.PartitionEqual1
import Derived.Shelf.SlSortCmp.Partition1
import Derived.Shelf.SlSortCmp.Pdq1
import Derived.Shelf.SlSortCmp.Whole1
import Derived.Shelf.SlSortCmp.NoneTotal
import Derived.Shelf.Strings.SlTrimAscii
import Derived.Lib.AtoiErrMem
import Derived.Handy
import Derived.Laws.ResultCell
import Derived.RegionTactic
import Derived.Lib.Repeat
import Derived.Deep.RegionHeld3
import Derived.Lib.SlicesS
import Derived.TacticsInMore
import Derived.LoopNIn
import Derived.LoopIn
import Derived.Laws.BitsAllLaws
import Derived.Laws.BitsLemmas
import Derived.Deep.MidRow
import Derived.Deep.DeepCutAuto
import Derived.Lib.Join
import Derived.Laws.Concat
import Derived.Laws.AppendOwn
import Derived.IntWalk
import Derived.Maps.OwnSet
import Derived.Maps.Range
import Derived.Deep.RegionLaw
import Derived.OneCell
import Derived.Laws.Tables
import Derived.Laws.CopyOwn
import Derived.OrdersHeld
import Derived.Deep.CutBlock
import Derived.Maps.AppendAt
import Derived.StillTailTactics
import Derived.DeepKeys4
import Derived.Maps.OwnOps
import Derived.Maps.Ext
import Derived.Lib.QuietBelow
import Derived.Shelf.SlGeneric
import Derived.Maps.RangeWalk
import Derived.Sort.KeysCollected
import Derived.Sort.OwnSorted
import Derived.Sort.WalkA
import Derived.Sort.LotA
import Derived.Sort.Walk0
import Derived.Deep.RegionLawGrows
import Derived.Deep.AppendLies
import Derived.RangeFuncBox
import Derived.Lib.AppendZerosOnto
import Derived.Lib.SliceRun
import Derived.Deep.LoopGhost
import Derived.Lib.AppendIntMem
set_option linter.unusedVariables false
namespace Go.Proofs.YtlgmanbilaminaaGreatDoor.S12
open Go Go.Proofs Go.RowKit Go.Lib Go.Proofs.YtlgmanbilaminaaGreatDoor Go.Proofs.YtlgmanbilaminaaGreatDoor.S10
structure KXQ (w0 : World) (A1 A2 : Option Addr) (rows : List (List Str)) (A3 A4 : Option Addr) (cs : List ReqD) (v1 v2 : Value) (ps : List ProbD) (w : World) : Prop where
  b : Below w0.heap.size w0 w
  r1 : RowsIn w (fun k => k < w.heap.size) A1 rows
  r2 : RowsIn w (fun k => k < w.heap.size) A2 rows
  m1 : ReqsIn w (fun k => k < w.heap.size) A3 cs
  m2 : ReqsIn w (fun k => k < w.heap.size) A4 cs
  p1 : ∃ B, ProbsRow w B v1 ps
  p2 : ∃ B, ProbsRow w B v2 ps
theorem rows_next {w w' : World} {A : Option Addr} {l : List (List Str)} (h : RowsIn w (fun k => k < w.heap.size) A l) (hb : Below w.heap.size w w') : RowsIn w' (fun k => k < w'.heap.size) A l :=
  (h.kept (fun k hk => hb.block k hk)).mono (fun k hk => Nat.lt_of_lt_of_le hk hb.size)
theorem reqs_next {w w' : World} {A : Option Addr} {l : List ReqD} (h : ReqsIn w (fun k => k < w.heap.size) A l) (hb : Below w.heap.size w w') : ReqsIn w' (fun k => k < w'.heap.size) A l :=
  (h.below hb).mono (fun k hk => Nat.lt_of_lt_of_le hk hb.size)
theorem KXQ.next {w0 w w' : World} {A1 A2 A3 A4 : Option Addr} {rows : List (List Str)} {cs : List ReqD} {v1 v2 : Value} {ps : List ProbD} (h : KXQ w0 A1 A2 rows A3 A4 cs v1 v2 ps w) (k : Below w.heap.size w w') : KXQ w0 A1 A2 rows A3 A4 cs v1 v2 ps w' := by
  obtain ⟨b, r1, r2, m1, m2, ⟨B1, p1⟩, ⟨B2, p2⟩⟩ := h
  exact ⟨b.trans (k.mono b.size), rows_next r1 k, rows_next r2 k, reqs_next m1 k, reqs_next m2 k, ⟨B1, S3.row_under p1 k⟩, ⟨B2, S3.row_under p2 k⟩⟩
theorem writeQ_len (l : List ReqD) : (writeQ l).1.length ≤ l.length := by
  unfold writeQ
  split <;> simp
set_option maxHeartbeats 32000000 in
set_option maxRecDepth 100000 in
theorem exact_any (A : Option Addr) (l : List ReqD) (c : Nat) (Ax : Option Addr) (x : List RecD) (cx : Nat) (st : ByteArray) (w : World) (hE : S3.Env w)
    (hI : ReqsIn w (fun k => k < w.heap.size) A l) (hl : l.length ≤ 1099511627776) (hls : ∀ r ∈ l, r.s.length ≤ 9223372036854775807) (hli : ∀ r ∈ l, r.l.length ≤ 8796093022208) (hS : StableSaid (wantF l (lst st)).length)
    (hX : RecsIn w (fun k => k < w.heap.size) Ax x) (hx : x.length ≤ 1000000000) (hsz : ∀ r ∈ x, ∀ f ∈ r.2, f.1.length ≤ 2097152) :
    Calls Tryz.prog 3 #[.slice A l.length c, .slice Ax x.length cx, .string st] w fun e w' => e = .returned (.bool true) ∧ Below w.heap.size w w' := by
  have HCI := hid (fun W (hb : Below w.heap.size w W) => (hI.below hb).mono (P' := fun k => k < W.heap.size) (fun k hk => Nat.lt_of_lt_of_le hk hb.size))
  have HXI := hid (fun W (hb : Below w.heap.size w W) => (hX.below hb).mono (P' := fun k => k < W.heap.size) (fun k hk => Nat.lt_of_lt_of_le hk hb.size))
  have HE := hid (fun W (hb : Below w.heap.size w W) => hE.below hb)
  have cK := hid (fun w' (hb : Below w.heap.size w w') => awake_any w' (hE.below hb))
  have cK' := cK.out
  unfold Says at cK'
  have cK := hid cK'
  have HI0 := hid hI
  have HX0 := hid hX
  have HSZ := hid hsz
  have HL := hid hl
  have HXL := hid hx
  have HLS := hid hls
  have HLI := hid hli
  have HS := hid hS
  obtain ⟨NX, hNX⟩ : ∃ N, x.length = N := ⟨_, rfl⟩
  obtain ⟨NL, hNL⟩ : ∃ N, l.length = N := ⟨_, rfl⟩
  have HNX := hid hNX
  have HNL := hid hNL
  rw [hNX] at hx ⊢
  rw [hNL] at hl ⊢
  clear cK' hE hI hX hsz hls hli hS hNX hNL
  go_enter Tryz.func3, Tryz.ntmps3
  go_wp2
  go_loopw [7] (fun iv wr => ∃ i : Nat, iv = .int .i64 (i : Int) ∧ i ≤ NX ∧ wr = w) (fun iv _ => NX - (RowKit.intOf iv).toNat)
  case atStart => exact ⟨0, rfl, Nat.zero_le _, rfl⟩
  case round =>
    obtain ⟨i, rfl, hi, hwr⟩ := hrel
    have hwr := hwr.symm
    subst hwr
    by_cases hlt : i < NX
    · have hltz : (i : Int) < (NX : Int) := by omega
      have dk : decide (NX ≤ i) = false := decide_eq_false (by omega)
      have hil : i < x.length := by rw [HNX.out]; exact hlt
      obtain ⟨fb, fo, A', c', rfl, hfb, -, -, -, y0, y1⟩ := HX0.out.at_ hil
      obtain ⟨F, hF⟩ : ∃ F, x[i].2.length = F := ⟨_, rfl⟩
      rw [hF] at y1
      clear y0 hF hil
      by_cases h20 : 20 < F
      · have h20z : (20 : Int) < (F : Int) := by omega
        have d20 : decide ((20 : Int) < (F : Int)) = true := decide_eq_true h20z
        go_wp2_with fail
        refine (cK.out _ (Below.refl _ _)).mono ?_
        rintro e w2 ⟨rfl, hb2⟩
        have HB2 := hid hb2
        clear hb2
        go_wp2
        go_ret
        exact ⟨rfl, HB2.out⟩
      · have h20z : ¬ (20 : Int) < (F : Int) := by omega
        have d20 : decide ((20 : Int) < (F : Int)) = false := decide_eq_false h20z
        go_wp2
        go_roundw
        case rel => exact ⟨i + 1, by go_num, by omega, by first | rfl | trivial⟩
        case measure => simp [RowKit.intOf]; omega
    · have hltz : ¬ (i : Int) < (NX : Int) := by omega
      have cW := qwrite_any A l c w (HI0.out) (HE.out _ (Below.refl _ _))
      unfold WriteOut at cW
      have cRW := fun W hb => qrwrite_any A l c W (HCI.out W hb)
      unfold WriteOut at cRW
      have cRD := fun W hb => qread_any Ax x cx W (HXI.out W hb) (by have := HXL.out; omega) (fun r hr f hf => by have := HSZ.out r hr f hf; omega) (HE.out W hb)
      unfold ReadOut at cRD
      have cRR := fun W hb => qrread_any Ax x cx W (HXI.out W hb) (by have := HXL.out; omega) HSZ.out
      unfold ReadOut at cRR
      have cV := fun W hb => qvalid_any A l c W (HCI.out W hb) (HE.out W hb)
      have cRV := fun W hb => qrvalid_any A l c W (HCI.out W hb)
      unfold Says at cV cRV
      have cST := fun W hb => students_any A l c W (HCI.out W hb) (by have := HL.out; omega) (fun r hr => by have := HLS.out r hr; unfold maxLen; omega)
      have cRS := fun W hb => rstudents_any A l c W (HCI.out W hb) HL.out HLS.out
      unfold S3.RowOut at cST cRS
      have cWA := fun W hb => wanted_any A l c st W (HCI.out W hb) HL.out HLI.out HS.out
      unfold WantOut at cWA
      have cRA := fun W hb => rwanted_any A l c st W (HCI.out W hb) HL.out
      have hsl := studM_len l
      have hwl : (wantM l (lst st)).length ≤ l.length := by rw [wantM_len]; exact List.length_filter_le _ _
      obtain ⟨SS, hSS⟩ : ∃ S, studM l = S := ⟨_, rfl⟩
      obtain ⟨WW, hWW⟩ : ∃ S, wantM l (lst st) = S := ⟨_, rfl⟩
      rw [hSS] at hsl
      rw [hWW] at hwl
      simp only [hSS] at cST cRS
      simp only [hWW] at cWA cRA
      have hrn := writeQ_len l
      have hps := recsM_probs x
      obtain ⟨⟨rows, e1⟩, hwu⟩ : ∃ S, writeQ l = S := ⟨_, rfl⟩
      obtain ⟨⟨cs, ps⟩, hru⟩ : ∃ S, recsM x = S := ⟨_, rfl⟩
      obtain ⟨R, hR⟩ : ∃ R, validQ l = R := ⟨_, rfl⟩
      have hcl := (recsM_few x).1
      rw [hwu] at cW hrn
      dsimp only at hrn
      simp only [hwu] at cRW
      simp only [hru] at cRD cRR
      rw [hru] at hps hcl
      dsimp only at hps hcl
      simp only [hR] at cV cRV
      rw [HNX.out] at hps
      simp only [HNX.out] at cRD cRR
      rw [HNL.out] at cW
      simp only [HNL.out] at cRW cV cRV cST cRS cWA cRA
      have CST := hid cST
      have CRS := hid cRS
      have CWA := hid cWA
      have CRA := hid cRA
      have HSL : Hid (SS.length ≤ 9223372036854775807) := hid (by have := HL.out; omega)
      have HWL : Hid (WW.length ≤ 9223372036854775807) := hid (by have := HL.out; omega)
      have CW := hid cW
      have CRW := hid cRW
      have CRD := hid cRD
      have CRR := hid cRR
      have CV := hid cV
      have CRV := hid cRV
      have HPS := hid hps
      have HRN : Hid (rows.length ≤ 9223372036854775807) := hid (by have := HL.out; omega)
      have HCL := hid hcl
      clear cW cRW cRD cRR cV cRV cST cRS cWA cRA hwu hru hR hps hcl hrn hSS hWW hsl hwl
      go_wp2_with fail
      refine CW.out.mono ?_
      rintro e w1 ⟨⟨v1, L1, hL1, rfl, hrr1⟩, hb1⟩
      obtain ⟨A1, c1, rfl, _, _, hri1⟩ := hrr1.rowsIn
      have hl1 : L1.length = rows.length := by rw [← hL1, List.length_map]
      rw [hL1] at hri1
      try dsimp only at hri1 hl1
      rw [hl1]
      have HR1 : Hid (RowsIn w1 (fun k => k < w1.heap.size) A1 rows) := hid (hri1.mono (fun k hk => hk.2))
      have HB1 := hid hb1
      clear hrr1 hri1 hb1 hL1 hl1 CW
      go_wp2_with fail
      refine (CRW.out w1 HB1.out).mono ?_
      rintro e w2 ⟨⟨v2, L2, hL2, rfl, hrr2⟩, hb2⟩
      obtain ⟨A2, c2, rfl, _, _, hri2⟩ := hrr2.rowsIn
      have hl2 : L2.length = rows.length := by rw [← hL2, List.length_map]
      rw [hL2] at hri2
      try dsimp only at hri2 hl2
      rw [hl2]
      have HR2 : Hid (RowsIn w2 (fun k => k < w2.heap.size) A2 rows) := hid (hri2.mono (fun k hk => hk.2))
      have HR1' := hid (rows_next HR1.out hb2)
      have HB2 := hid (HB1.out.trans (hb2.mono HB1.out.size))
      clear hrr2 hri2 hb2 hL2 hl2 CRW HR1 HB1
      go_wp2_with fail
      refine (CRD.out w2 HB2.out).mono ?_
      rintro e w3 ⟨v3, v4, rfl, hrm3, hpr3, hb3⟩
      obtain ⟨A3, c3, rfl, _, _, hin3⟩ := hrm3.reqsIn
      have HM3 : Hid (ReqsIn w3 (fun k => k < w3.heap.size) A3 cs) := hid (hin3.mono (fun k hk => by rcases hk with h | h; exact h.2; exact h.2))
      have HP3 := hid hpr3
      have HR13 := hid (rows_next HR1'.out hb3)
      have HR23 := hid (rows_next HR2.out hb3)
      have HB3 := hid (HB2.out.trans (hb3.mono HB2.out.size))
      clear hrm3 hpr3 hb3 hin3 CRD HR1' HR2 HB2
      go_wp2_with fail
      refine (CRR.out w3 HB3.out).mono ?_
      rintro e w4 ⟨v5, v6, rfl, hrm4, hpr4, hb4⟩
      obtain ⟨A4, c4, rfl, _, _, hin4⟩ := hrm4.reqsIn
      have HK4 : Hid (KXQ w A1 A2 rows A3 A4 cs v4 v6 ps w4) := hid ⟨HB3.out.trans (hb4.mono HB3.out.size), rows_next HR13.out hb4, rows_next HR23.out hb4, reqs_next HM3.out hb4, hin4.mono (fun k hk => by rcases hk with h | h; exact h.2; exact h.2), ⟨_, S3.row_under HP3.out hb4⟩, ⟨_, hpr4⟩⟩
      clear hrm4 hpr4 hb4 hin4 CRR HR13 HR23 HM3 HP3 HB3
      obtain ⟨NR, hNR⟩ : ∃ N, rows.length = N := ⟨_, rfl⟩
      obtain ⟨NM, hNM⟩ : ∃ N, cs.length = N := ⟨_, rfl⟩
      have HNR := hid hNR
      have HNM := hid hNM
      rw [hNR, hNM]
      clear hNR hNM
      go_wp2_with fail
      refine (cK.out _ HK4.out.b).mono ?_
      rintro e w5 ⟨rfl, hb5⟩
      have HK5 := hid (HK4.out.next hb5)
      clear hb5 HK4
      go_wp2_with fail
      refine (CV.out _ HK5.out.b).mono ?_
      rintro e w6 ⟨rfl, hb6⟩
      have HK6 := hid (HK5.out.next hb6)
      clear hb6 HK5
      go_wp2_with fail
      refine (CRV.out _ HK6.out.b).mono ?_
      rintro e w7 ⟨rfl, hb7⟩
      have HK7 := hid (HK6.out.next hb7)
      clear hb7 HK6
      have cSL := sameLists_any A1 A2 rows rows c1 c2 _ _ w7 HK7.out.r1 HK7.out.r2 HRN.out
      rw [decide_eq_true rfl, HNR.out] at cSL
      have CSL := hid cSL
      clear cSL
      go_wp2_with fail
      refine CSL.out.mono ?_
      rintro e w8 ⟨rfl, q8, hq8⟩
      have HK8 : Hid (KXQ w A1 A2 rows A3 A4 cs v4 v6 ps w8) := hid (by rw [hq8]; exact HK7.out.next (S3.below_drewN (Below.refl _ _) q8))
      clear hq8 HK7 CSL
      have cSM := qsame_any A3 A4 cs c3 c4 _ _ w8 HK8.out.m1 HK8.out.m2 (by have := HCL.out; omega)
      rw [HNM.out] at cSM
      have CSM := hid cSM
      clear cSM
      go_wp2_with fail
      refine CSM.out.mono ?_
      rintro e w9 ⟨rfl, q9, hq9⟩
      have HK9 : Hid (KXQ w A1 A2 rows A3 A4 cs v4 v6 ps w9) := hid (by rw [hq9]; exact HK8.out.next (S3.below_drewN (Below.refl _ _) q9))
      clear hq9 HK8 CSM
      obtain ⟨BP1, hp1⟩ := HK9.out.p1
      obtain ⟨BP2, hp2⟩ := HK9.out.p2
      have CSP := hid (sameProbs_any v4 v6 ps BP1 BP2 w9 hp1 hp2 (by have := HPS.out; omega))
      clear hp1 hp2
      go_wp2_with fail
      refine CSP.out.mono ?_
      rintro e wA ⟨rfl, qA, hqA⟩
      have HKA : Hid (KXQ w A1 A2 rows A3 A4 cs v4 v6 ps wA) := hid (by rw [hqA]; exact HK9.out.next (S3.below_drewN (Below.refl _ _) qA))
      clear hqA HK9 CSP
      go_wp2_with fail
      refine (CST.out _ HKA.out.b).mono ?_
      rintro e wB ⟨⟨vs, rfl, hrs⟩, hbB⟩
      obtain ⟨As, cs1, rfl, _, _, hs1⟩ := S3.StrRow.strsIn hrs
      have HKB := hid (HKA.out.next hbB)
      have HS1 : Hid (S3.StrsIn wB (fun k => k < wB.heap.size) As SS) := hid (hs1.mono (fun k hk => hk.2))
      clear hrs hs1 hbB HKA CST
      go_wp2_with fail
      refine (CRS.out _ HKB.out.b).mono ?_
      rintro e wC ⟨⟨vt, rfl, hrt⟩, hbC⟩
      obtain ⟨At, cs2, rfl, _, _, hs2⟩ := S3.StrRow.strsIn hrt
      have HKC := hid (HKB.out.next hbC)
      have hs1 := (HS1.out.kept (fun k hk => hbC.block k hk)).mono (P' := fun k => k < wC.heap.size) (fun k hk => Nat.lt_of_lt_of_le hk hbC.size)
      have cSS := S3.sameStrings_any As At SS SS cs1 cs2 _ _ wC hs1 hs2 HSL.out
      rw [decide_eq_true rfl] at cSS
      have CSS := hid cSS
      clear hrt hs2 hs1 hbC HKB HS1 CRS cSS
      go_wp2_with fail
      refine CSS.out.mono ?_
      rintro e wD ⟨rfl, qD, hqD⟩
      have HKD : Hid (KXQ w A1 A2 rows A3 A4 cs v4 v6 ps wD) := hid (by rw [hqD]; exact HKC.out.next (S3.below_drewN (Below.refl _ _) qD))
      clear hqD HKC CSS
      go_wp2_with fail
      refine (CWA.out _ HKD.out.b).mono ?_
      rintro e wE ⟨⟨vw, rfl, hrw⟩, hbE⟩
      obtain ⟨Aw, cw1, rfl, _, _, hw1⟩ := hrw.reqsIn
      have HKE := hid (HKD.out.next hbE)
      have HW1 : Hid (ReqsIn wE (fun k => k < wE.heap.size) Aw WW) := hid (hw1.mono (fun k hk => by rcases hk with h | h; exact h.2; exact h.2))
      clear hrw hw1 hbE HKD CWA
      go_wp2_with fail
      refine (CRA.out _ HKE.out.b).mono ?_
      rintro e wF ⟨⟨vx, rfl, hrx⟩, hbF⟩
      obtain ⟨Ay, cw2, rfl, _, _, hw2⟩ := hrx.reqsIn
      have HKF := hid (HKE.out.next hbF)
      have hw1 := reqs_next HW1.out hbF
      have cSW := qsame_any Aw Ay WW cw1 cw2 _ _ wF hw1 hw2 HWL.out
      have CSW := hid cSW
      clear hrx hw2 hw1 hbF HKE HW1 CRA cSW
      go_wp2_with fail
      refine CSW.out.mono ?_
      rintro e wG ⟨rfl, qG, hqG⟩
      have HKG : Hid (KXQ w A1 A2 rows A3 A4 cs v4 v6 ps wG) := hid (by rw [hqG]; exact HKF.out.next (S3.below_drewN (Below.refl _ _) qG))
      clear hqG HKF CSW
      go_wp2
      go_ret
      exact ⟨rfl, HKG.out.b⟩
end Go.Proofs.YtlgmanbilaminaaGreatDoor.S12
