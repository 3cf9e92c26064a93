/-
  A class alone by the specification: check. Conditions: the class lies in memory, the grid and the weeks are right.
-/
import Derived.Test.YtigdcgklpapfbaaGreatDoorVN01
import Derived.Test.YtigdcgklpapfbaaGreatDoorVN02
import Derived.Test.YtigdcgklpapfbaaGreatDoorVN03
import Derived.Test.YtigdcgklpapfbaaGreatDoorVN04
import Derived.Test.YtigdcgklpapfbaaGreatDoorVN05
import Derived.Test.YtigdcgklpapfbaaGreatDoorVN06
import Derived.Test.YtigdcgklpapfbaaGreatDoorVN07
import Derived.Test.YtigdcgklpapfbaaGreatDoorVN08
import Derived.Test.YtigdcgklpapfbaaGreatDoorVN09
import Derived.Test.YtigdcgklpapfbaaGreatDoorVN10
import Derived.Test.YtigdcgklpapfbaaGreatDoorVN11
import Derived.Test.YtigdcgklpapfbaaGreatDoorVN12
import Derived.Test.YtigdcgklpapfbaaGreatDoorVN13
import Derived.Test.YtigdcgklpapfbaaGreatDoorVN14
import Derived.Test.YtigdcgklpapfbaaGreatDoorVN15
import Derived.Test.YtigdcgklpapfbaaGreatDoorVN16
import Derived.Test.YtigdcgklpapfbaaGreatDoorVN17
import Derived.Test.YtigdcgklpapfbaaGreatDoorVN18
import Derived.Test.YtigdcgklpapfbaaGreatDoorVN19
import Derived.Test.YtigdcgklpapfbaaGreatDoorVN20
import Derived.Test.YtigdcgklpapfbaaGreatDoorVN21
import Derived.Test.YtigdcgklpapfbaaGreatDoorVN22
import Derived.Test.YtigdcgklpapfbaaGreatDoorVN23
import Derived.Test.YtigdcgklpapfbaaGreatDoorVN24
import Derived.Test.YtigdcgklpapfbaaGreatDoorVN25
import Derived.Test.YtigdcgklpapfbaaGreatDoorVN26
import Derived.Test.YtigdcgklpapfbaaGreatDoorProg
import Derived.WalkKit
import Derived.WalkSpells
import Derived.WalkLawsBesides
import Derived.Lib.Hide
import Derived.Deep.QuietTactic
import Derived.BigQuiet
import Derived.Laws.Rows
import Derived.OwnWalk
import Derived.Lib.BufferWrite
import Derived.Lib.UnsafeStr
import Derived.Laws.IdiomStrings
import Derived.Laws.BytesArg
import Derived.Laws.BytesString
import Derived.Laws.OwnMore
import Derived.Lib.IndexLaws
import Derived.Lib.ItoaNum
import Derived.Lib.Atoi
import Derived.Laws.BitsAllLaws
import Derived.Laws.BitsLemmas
import Derived.Deep.MidRow
import Derived.Shelf.Strings.Builder1
import Derived.Shelf.Strings.Builder2
import Derived.Shelf.Strings.OnBuilder
import Derived.Shelf.Strings.Trim
import Derived.Shelf.Small.Bits
import Derived.Shelf.Small.Strs
import Derived.Shelf.Small.Wraps
import Derived.Shelf.Strings.BuilderF
import Derived.Shelf.Strings.BuilderK
import Derived.Shelf.Strings.Builder2Cap
import Derived.Shelf.Strconv.Atoi
import Derived.Shelf.Strconv.Itoa0
import Derived.Shelf.Strconv.Itoa1
import Derived.Shelf.LaysM
import Derived.Shelf.Strconv.Itoa2
import Derived.Shelf.Strconv.Itoa3
import Derived.Shelf.Strconv.AtoiErrFast
import Derived.Shelf.Strconv.ParseIntEmpty
import Derived.Shelf.Strconv.AtoiFail
import Derived.Shelf.Strconv.Clone
import Derived.Shelf.Strconv.SyntaxError
import Derived.Shelf.LaysC
import Derived.Shelf.Strconv.ToError
import Derived.Shelf.Strconv.AtoiErr
import Derived.Shelf.Strings.Search1
import Derived.Shelf.Strings.Search2
import Derived.Shelf.Strings.Search3
import Derived.Shelf.Strings.Cut
import Derived.Shelf.Strings.Shaped
import Derived.Shelf.Strings.Prefix
import Derived.Shelf.Strings.Runes
import Derived.Shelf.Strings.AsciiSet
import Derived.Shelf.Bits.Mul64
import Derived.Shelf.Strings.Repeat
import Derived.Shelf.Unicode.DecodeSlow
import Derived.Shelf.Strings.BuilderCap
import Derived.Shelf.Slices.Turned
import Derived.Ground.SlgfProg
import Derived.Shelf.SlicesE.IndexFunc
import Derived.Lib.AtoiErrMem
import Derived.Handy
import Derived.RangeFuncNested
import Derived.RangeFuncBound
import Derived.RangeFuncCalls
import Derived.RangeFuncLeaves
import Derived.Shelf.Abstract
import Derived.Shelf.RegionOpen
import Derived.OwnWalkIn
import Derived.Lib.Bytealg
import Derived.Lib.SlTrimSet
import Derived.Shelf.Strings.SlTrimAscii
import Derived.Laws.ResultCell
import Derived.RegionTactic
import Derived.Lib.Repeat
import Derived.Deep.RegionHeld3
import Derived.Lib.SlicesS
import Derived.TacticsInMore
import Derived.LoopNIn
import Derived.LoopIn
import Derived.Deep.DeepCutAuto
import Derived.Lib.Join
import Derived.Laws.Concat
import Derived.Maps.OwnSet
import Derived.Maps.Range
import Derived.Sort.EncStr
import Derived.Deep.RegionLaw
import Derived.Sort.Grow
import Derived.Shelf.SlGeneric
import Derived.Shelf.SlSortCmp.NoneTotal
import Derived.Ground.SlsfProg
import Derived.Sort.OwnSorted
import Derived.RangeFuncBox
import Derived.Sort.Walk0
import Derived.Lib.AppendIntMem
import Derived.Lib.QuietBelow
import Derived.WalkMore
import Derived.Maps.AppendAt
set_option linter.unusedVariables false
namespace Go.Proofs.YtigdcgklpapfbaaGreatDoor.S10
open Go Go.Proofs Go.RowKit Go.Lib Go.Proofs.YtigdcgklpapfbaaGreatDoor
open Go.Sort

theorem fit_poss {d s b m n len : Int} (hf : frameB d s b m n = true) (h1 : 1 ≤ len) (h2 : len ≤ s) (t : StartD) : fitS d s b m len t = possB d s len t := by
  have hg : gridB d s b m = true := (of_decide_eq_true hf).1
  have hG : GridP d s b m := of_decide_eq_true hg
  obtain ⟨⟨a1, a2⟩, ⟨a3, a4⟩, _⟩ := hG
  have hf1 : frameB d s b m 1 = true := decide_eq_true ⟨hg, by omega, by omega⟩
  have v1 : validM 1 20 = true := by decide
  have v2 : validM 1 1 = true := by decide
  unfold fitS possB fitsM
  rw [if_pos hf1]
  have e : soundB 1 t.1 t.2 len = true ↔ ((0 ≤ t.1 ∧ t.1 ≤ 6) ∧ 0 ≤ t.2 ∧ 1 ≤ len ∧ t.2 + len ≤ 24) := ⟨fun k => (of_decide_eq_true k).2, fun k => decide_eq_true ⟨v1, k⟩⟩
  by_cases hc : 0 ≤ t.1 ∧ t.1 < d ∧ 0 ≤ t.2 ∧ t.2 ≤ s - len
  · rw [if_pos ⟨e.2 (by omega), v2, by omega, by omega⟩, decide_eq_true hc]; rfl
  · rw [if_neg (by rintro ⟨k1, _, k2, k3⟩; have := e.1 k1; exact hc (by omega)), decide_eq_false hc]; rfl

set_option maxHeartbeats 16000000 in
set_option maxRecDepth 100000 in
theorem rcheck_any (d s b m n : Int) (x : ClassD) (q : ClassA) (w : World) (h : ClassIn w (fun b => b < w.heap.size) x q) (hf0 : frameB d s b m n = true) :
    Calls Tryz.prog 53 #[clsV x q, .agg #[.int .i64 d, .int .i64 s, .int .i64 b, .int .i64 m], .int .i64 n] w (Says (.int .i64 (checkM d s b m n x)) w) := by
  obtain ⟨c0, c1, c2, len, pats, seats, feats, staff, starts⟩ := x
  obtain ⟨aP, cP, aF, cF, aS, cS, aT, cT⟩ := q
  obtain ⟨hp, hf, hs, ht, p1, p2, f1, f2, s1, s2, t1, t2⟩ := h
  dsimp only at hp hf hs ht p1 p2 f1 f2 s1 s2 t1 t2
  unfold clsV Says
  dsimp only
  have hk0 := KT.first w #[.string (ba c0), .string (ba c1), .string (ba c2), .int .i64 len, .slice aP pats.length cP, .int .i64 seats, .slice aF feats.length cF, .slice aS staff.length cS, .slice aT starts.length cT] d s b m
  have low : ∀ W, Below w.heap.size w W → ∀ k, k < w.heap.size → k < W.heap.size := fun W hb k hk => Nat.lt_of_lt_of_le hk hb.size
  have hs24 : s ≤ 24 := frame_slots hf0
  have cV0 := fun W => S3.refValid_any (ba c0) W
  have cV1 := fun W => S3.refValid_any (ba c1) W
  have cV2 := fun W => S3.refValid_any (ba c2) W
  have cF := fun (W : World) (hb : Below w.heap.size w W) => rcodes_any aF feats cF _ W (S3.StrsIn.below hf hb) f1 f2
  have cS := fun (W : World) (hb : Below w.heap.size w W) => rcodes_any aS staff cS _ W (S3.StrsIn.below hs hb) s1 s2
  have HPI := hid (fun (W : World) (hb : Below w.heap.size w W) => (hp.below hb).mono (low W hb))
  have HTI := hid (fun (W : World) (hb : Below w.heap.size w W) => (ht.below hb).mono (low W hb))
  obtain ⟨R, hR⟩ : ∃ R, checkM d s b m n ⟨c0, c1, c2, len, pats, seats, feats, staff, starts⟩ = R := ⟨_, rfl⟩
  rw [hR]
  rw [checkM_eq] at hR
  dsimp only at hR
  rw [show (ba c0).data.toList = c0 from rfl] at cV0
  rw [show (ba c1).data.toList = c1 from rfl] at cV1
  rw [show (ba c2).data.toList = c2 from rfl] at cV2
  obtain ⟨V0, hV0⟩ : ∃ V, S3.validC c0 = V := ⟨_, rfl⟩
  obtain ⟨V1, hV1⟩ : ∃ V, S3.validC c1 = V := ⟨_, rfl⟩
  obtain ⟨V2, hV2⟩ : ∃ V, S3.validC c2 = V := ⟨_, rfl⟩
  obtain ⟨L, hL⟩ : ∃ V, decide (1 ≤ len ∧ len ≤ s) = V := ⟨_, rfl⟩
  obtain ⟨P, hP⟩ : ∃ V, patsB n pats = V := ⟨_, rfl⟩
  obtain ⟨F, hF⟩ : ∃ V, featB feats = V := ⟨_, rfl⟩
  obtain ⟨S, hS⟩ : ∃ V, featB staff = V := ⟨_, rfl⟩
  obtain ⟨T, hT⟩ : ∃ V, startsB d s b m len starts = V := ⟨_, rfl⟩
  rw [hV0, hV1, hV2, hL, hP, hF, hS, hT] at hR
  rw [hV0] at cV0
  rw [hV1] at cV1
  rw [hV2] at cV2
  rw [hF] at cF
  rw [hS] at cS
  obtain ⟨X0, hX0⟩ : ∃ X, ba c0 = X := ⟨_, rfl⟩
  obtain ⟨X1, hX1⟩ : ∃ X, ba c1 = X := ⟨_, rfl⟩
  obtain ⟨X2, hX2⟩ : ∃ X, ba c2 = X := ⟨_, rfl⟩
  obtain ⟨nF, hnF⟩ : ∃ F, feats.length = F := ⟨_, rfl⟩
  obtain ⟨nS, hnS⟩ : ∃ F, staff.length = F := ⟨_, rfl⟩
  rw [hX0] at hk0 cV0 ⊢
  rw [hX1] at hk0 cV1 ⊢
  rw [hX2] at hk0 cV2 ⊢
  rw [hnF] at hk0 cF hR ⊢
  rw [hnS] at hk0 cS hR ⊢
  have CV0 := hid cV0
  have CV1 := hid cV1
  have CV2 := hid cV2
  have CF := hid cF
  have CS := hid cS
  have HK0 := hid hk0
  unfold chkB at hR
  have HR := hid hR
  have HP := hid hP
  have HL := hid hL
  have HT0 := hid hT
  have HFR := hid hf0
  have HS24 := hid hs24
  have HT1 := hid t1
  clear cV0 cV1 cV2 cF cS hk0 hR hX0 hX1 hX2 hnF hnS hV0 hV1 hV2 hL hP hF hS hT low hp hf hs ht f1 f2 s1 s2 t2 hf0 hs24 t1 c0 c1 c2 feats staff
  go_enter Tryz.func53, Tryz.ntmps53
  go_wp2_with fail
  have hk := HK0.out
  clear HK0
  generalize World.alloc _ _ = wx at hk ⊢
  obtain ⟨x0, x1, x2, x3, x4, x5, x6, x7, x8⟩ := hk.x.cells
  obtain ⟨g0, g1, g2, g3, _⟩ := id hk.g
  have HK := hid hk
  clear hk
  refine (CV0.out _).mono ?_
  rintro e w' ⟨rfl, rfl⟩
  cases V0 with
  | false =>
    obtain rfl : R = 10 := HR.out.symm.trans (by simp)
    clear HR
    go_wp2
    go_ret
    exact ⟨rfl, HK.out.b⟩
  | true =>
  go_wp2_with fail
  refine (CV1.out _).mono ?_
  rintro e w' ⟨rfl, rfl⟩
  cases V1 with
  | false =>
    obtain rfl : R = 10 := HR.out.symm.trans (by simp)
    clear HR
    go_wp2
    go_ret
    exact ⟨rfl, HK.out.b⟩
  | true =>
  go_wp2_with fail
  refine (CV2.out _).mono ?_
  rintro e w' ⟨rfl, rfl⟩
  cases V2 with
  | false =>
    obtain rfl : R = 10 := HR.out.symm.trans (by simp)
    clear HR
    go_wp2
    go_ret
    exact ⟨rfl, HK.out.b⟩
  | true =>
  have hr := HR.out
  rw [if_neg (by simp)] at hr
  clear HR
  have HR := hid hr
  clear hr
  by_cases l0 : len < 1
  · have l0d : decide (len < 1) = true := decide_eq_true l0
    have lL : L = false := by rw [← HL.out]; exact decide_eq_false (by omega)
    obtain rfl : R = 3 := by have hr := HR.out; rw [← hr, if_pos lL]
    clear HR
    go_wp2
    go_ret
    exact ⟨rfl, HK.out.b⟩
  have l0d : decide (len < 1) = false := decide_eq_false l0
  by_cases l1 : s < len
  · have l1d : decide (s < len) = true := decide_eq_true l1
    have lL : L = false := by rw [← HL.out]; exact decide_eq_false (by omega)
    obtain rfl : R = 3 := by have hr := HR.out; rw [← hr, if_pos lL]
    clear HR
    go_wp2
    go_ret
    exact ⟨rfl, HK.out.b⟩
  have l1d : decide (s < len) = false := decide_eq_false l1
  have lL : L = true := by rw [← HL.out]; exact decide_eq_true (by omega)
  have hr := HR.out
  rw [if_neg (by rw [lL]; simp)] at hr
  clear HR
  have HR := hid hr
  clear hr
  clear lL
  by_cases z0 : pats.length = 0
  · have z0a : (pats.length : Int) = 0 := by omega
    have z0b : ((pats.length : Int) == 0) = true := by simpa using z0
    obtain rfl : R = 16 := by have hr := HR.out; rw [← hr, if_pos z0]
    clear HR
    go_wp2
    go_ret
    exact ⟨rfl, HK.out.b⟩
  have z0a : ¬ ((pats.length : Int) = 0) := by omega
  have z0b : ((pats.length : Int) == 0) = false := by simpa using z0
  have z0c : (pats.length == 0) = false := by simpa using z0
  have hr := HR.out
  rw [if_neg z0] at hr
  clear HR
  have HR := hid hr
  clear hr
  by_cases z1 : 8 < pats.length
  · have z1a : (8 : Int) < (pats.length : Int) := by omega
    have z1d : decide ((8 : Int) < (pats.length : Int)) = true := decide_eq_true z1a
    obtain rfl : R = 2 := by have hr := HR.out; rw [← hr, if_pos z1]
    clear HR
    go_wp2
    go_ret
    exact ⟨rfl, HK.out.b⟩
  have z1a : ¬ (8 : Int) < (pats.length : Int) := by omega
  have z1d : decide ((8 : Int) < (pats.length : Int)) = false := decide_eq_false z1a
  have hr := HR.out
  rw [if_neg z1] at hr
  clear HR
  have HR := hid hr
  clear hr
  go_wp2
  clear x0 x1 x2 x3 x4 x5 x6 x7 x8 g0 g1 g2 g3 l0d l1d z0a z0b z0c z1a z1d
  go_loopw [7] (fun iv wr => ∃ i : Nat, iv = .int .i64 (i : Int) ∧ i ≤ pats.length ∧ Hid ((∀ j (hj : j < pats.length), j < i → validM pats[j] n = true) ∧ (pats.take i).Nodup) ∧ Hid (KT w #[.string X0, .string X1, .string X2, .int .i64 len, .slice aP pats.length cP, .int .i64 seats, .slice aF nF cF, .slice aS nS cS, .slice aT starts.length cT] d s b m wr)) (fun iv _ => pats.length - (RowKit.intOf iv).toNat)
  case atStart => exact ⟨0, rfl, Nat.zero_le _, hid ⟨fun j _ h => absurd h (Nat.not_lt_zero _), by simp⟩, HK⟩
  case round =>
    obtain ⟨i, rfl, hi, hV, hK⟩ := hrel
    obtain ⟨x0, x1, x2, x3, x4, x5, x6, x7, x8⟩ := hK.out.x.cells
    obtain ⟨g0, g1, g2, g3, _⟩ := id hK.out.g
    by_cases hlt : i < pats.length
    · have hltz : (i : Int) < (pats.length : Int) := by omega
      have dk : decide (pats.length ≤ i) = false := decide_eq_false (by omega)
      obtain ⟨pb, po, rfl, hpb, p0⟩ := (HPI.out wr hK.out.b).num hlt
      have cV := fun W => rvalid_any pats[i] n W
      have cN := fun (W : World) (hb : Below w.heap.size w W) => rnumber_any (some ⟨pb, po, none⟩) pats cP pats[i] W (HPI.out W hb) (by omega)
      have hlt2 := numG_lt pats i hlt
      have hnd := nodup_take hlt hV.out.2
      have hv1 := hV.out.1
      have hpat : ∀ (k : validM pats[i] n = false), patsB n pats = false := fun k => by
        unfold patsB
        rw [Bool.and_eq_false_iff]
        left
        rw [List.all_eq_false]
        exact ⟨pats[i], List.getElem_mem hlt, by rw [k]; simp⟩
      have hpat2 : pats[i] ∈ pats.take i → patsB n pats = false := fun k => by
        unfold patsB dupB
        rw [decide_eq_false (fun q => hnd.1 (nodup_pre _ q) k)]
        simp
      have hstep : validM pats[i] n = true → ∀ j (hj : j < pats.length), j < i + 1 → validM pats[j] n = true := fun k j hj hji => by
        by_cases e : j = i
        · subst e; exact k
        · exact hv1 j hj (by omega)
      have hNod := hV.out.2
      obtain ⟨N, hN⟩ : ∃ N, numG pats pats[i] 0 = N := ⟨_, rfl⟩
      rw [hN] at cN hlt2
      obtain ⟨y, hy⟩ : ∃ y, pats[i] = y := ⟨_, rfl⟩
      rw [hy] at p0 cV cN hlt2 hpat hpat2 hstep hnd
      cases hvv : validM y n with
      | false =>
        rw [hvv] at cV
        have HRR : Hid (R = 1) := hid (by have hr := HR.out; rw [← HP.out, if_pos (hpat hvv)] at hr; exact hr.symm)
        clear hpat hpat2 hstep hnd hvv hv1 hNod cN hlt2 hy hN
        go_wp2
        go_quiet ((go_at_call 65; refine Calls.quiet_of (cV _)))
        go_wp2
        go_ret
        rw [HRR.out]
        exact ⟨rfl, (hK.out.next (S3.below_drewN (Below.refl _ _) nq)).b⟩
      | true =>
        rw [hvv] at cV
        have cN' : ∀ q, Calls Tryz.prog 80 #[.slice (some ⟨pb, po, none⟩) pats.length cP, .int .i64 y] (wr.drewN q) fun e w' => e = .returned (.int .i64 N) ∧ wr.drewN q = w' := fun q => cN _ (hK.out.next (S3.below_drewN (Below.refl _ _) q)).b
        by_cases hm : y ∈ pats.take i
        · have hNi : N < (i : Int) := hlt2.2 hm
          have hNd : decide (N < (i : Int)) = true := decide_eq_true hNi
          have HRR : Hid (R = 1) := hid (by have hr := HR.out; rw [← HP.out, if_pos (hpat2 hm)] at hr; exact hr.symm)
          clear hpat hpat2 hstep hnd hvv hv1 hNod cN hlt2 hy hN hm
          go_wp2
          go_quiet ((first | (go_at_call 65; refine Calls.quiet_of (cV _)) | (go_at_call 80; refine Calls.quiet_of_same ((cN' _).mono (fun e w' h => ⟨h.1, h.2.symm⟩)))))
          go_wp2
          go_ret
          rw [HRR.out]
          exact ⟨rfl, (hK.out.next (S3.below_drewN (Below.refl _ _) nq)).b⟩
        · have hNi : ¬ N < (i : Int) := fun k => hm (hlt2.1 k)
          have hNd : decide (N < (i : Int)) = false := decide_eq_false hNi
          have HV2 : Hid ((∀ j (hj : j < pats.length), j < i + 1 → validM pats[j] n = true) ∧ (pats.take (i + 1)).Nodup) := hid ⟨hstep hvv, hnd.2 hm⟩
          clear hpat hpat2 hstep hnd hvv hv1 hNod cN hlt2 hy hN hm
          go_wp2
          go_quiet ((first | (go_at_call 65; refine Calls.quiet_of (cV _)) | (go_at_call 80; refine Calls.quiet_of_same ((cN' _).mono (fun e w' h => ⟨h.1, h.2.symm⟩)))))
          have HK2 := hid (hK.out.next (S3.below_drewN (Below.refl wr.heap.size wr) nq))
          go_wp2
          go_roundw
          case rel => exact ⟨i + 1, by go_num, by omega, HV2, HK2⟩
          case measure => simp [RowKit.intOf]; omega
    · have hltz : ¬ (i : Int) < (pats.length : Int) := by omega
      have hPt : patsB n pats = true := by
        have h := hV.out
        rw [List.take_of_length_le (by omega)] at h
        unfold patsB dupB
        rw [decide_eq_true h.2, Bool.and_eq_true, List.all_eq_true]
        refine ⟨fun x hx => ?_, rfl⟩
        obtain ⟨j, hj, rfl⟩ := List.mem_iff_getElem.1 hx
        exact h.1 j hj (by omega)
      have hr := HR.out
      rw [← HP.out, hPt, if_neg (by simp)] at hr
      clear HR HPI HP
      have HR := hid hr
      clear hr hPt
      by_cases y0 : seats < 0
      · have y0d : decide (seats < 0) = true := decide_eq_true y0
        obtain rfl : R = 3 := by have hr := HR.out; rw [← hr, if_pos (Or.inl y0)]
        clear HR
        go_wp2
        go_ret
        exact ⟨rfl, hK.out.b⟩
      have y0d : decide (seats < 0) = false := decide_eq_false y0
      by_cases y1 : 9999 < seats
      · have y1d : decide (9999 < seats) = true := decide_eq_true y1
        obtain rfl : R = 3 := by have hr := HR.out; rw [← hr, if_pos (Or.inr y1)]
        clear HR
        go_wp2
        go_ret
        exact ⟨rfl, hK.out.b⟩
      have y1d : decide (9999 < seats) = false := decide_eq_false y1
      have hr := HR.out
      rw [if_neg (fun k => k.elim y0 y1)] at hr
      clear HR
      have HR := hid hr
      clear hr
      by_cases v0 : 8 < nF
      · have v0a : (8 : Int) < (nF : Int) := by omega
        have v0d : decide ((8 : Int) < (nF : Int)) = true := decide_eq_true v0a
        have v0e : decide (8 < nF) = true := decide_eq_true v0
        obtain rfl : R = 2 := by have hr := HR.out; rw [← hr, if_pos (Or.inl v0)]
        clear HR
        go_wp2
        go_ret
        exact ⟨rfl, hK.out.b⟩
      have v0a : ¬ (8 : Int) < (nF : Int) := by omega
      have v0d : decide ((8 : Int) < (nF : Int)) = false := decide_eq_false v0a
      have v0e : decide (8 < nF) = false := decide_eq_false v0
      by_cases u0 : 8 < nS
      · have u0a : (8 : Int) < (nS : Int) := by omega
        have u0d : decide ((8 : Int) < (nS : Int)) = true := decide_eq_true u0a
        have u0e : decide (8 < nS) = true := decide_eq_true u0
        obtain rfl : R = 2 := by have hr := HR.out; rw [← hr, if_pos (Or.inr u0)]
        clear HR
        go_wp2
        go_ret
        exact ⟨rfl, hK.out.b⟩
      have u0a : ¬ (8 : Int) < (nS : Int) := by omega
      have u0d : decide ((8 : Int) < (nS : Int)) = false := decide_eq_false u0a
      have u0e : decide (8 < nS) = false := decide_eq_false u0
      have hr := HR.out
      rw [if_neg (fun k => k.elim v0 u0)] at hr
      clear HR
      have HR := hid hr
      clear hr
      go_wp2_with fail
      refine (CF.out _ hK.out.b).mono ?_
      rintro e w3 ⟨rfl, q, hw3⟩
      have hK' : Hid (KT w #[.string X0, .string X1, .string X2, .int .i64 len, .slice aP pats.length cP, .int .i64 seats, .slice aF nF cF, .slice aS nS cS, .slice aT starts.length cT] d s b m w3) := hid (by rw [hw3]; exact hK.out.next (S3.below_drewN (Below.refl _ _) q))
      clear hw3 y0 y0d y1 y1d v0 v0a v0d v0e u0 u0a u0d u0e x0 x1 x2 x3 x4 x5 x6 x7 x8 g0 g1 g2 g3
      obtain ⟨x0, x1, x2, x3, x4, x5, x6, x7, x8⟩ := hK'.out.x.cells
      obtain ⟨g0, g1, g2, g3, _⟩ := id hK'.out.g
      cases F with
      | false =>
        obtain rfl : R = 10 := HR.out.symm.trans (by simp)
        clear HR
        go_wp2
        go_ret
        exact ⟨rfl, hK'.out.b⟩
      | true =>
      go_wp2_with fail
      refine (CS.out _ hK'.out.b).mono ?_
      rintro e w3 ⟨rfl, q, hw3⟩
      have hK'' : Hid (KT w #[.string X0, .string X1, .string X2, .int .i64 len, .slice aP pats.length cP, .int .i64 seats, .slice aF nF cF, .slice aS nS cS, .slice aT starts.length cT] d s b m w3) := hid (by rw [hw3]; exact hK'.out.next (S3.below_drewN (Below.refl _ _) q))
      clear hw3 x0 x1 x2 x3 x4 x5 x6 x7 x8 g0 g1 g2 g3
      obtain ⟨x0, x1, x2, x3, x4, x5, x6, x7, x8⟩ := hK''.out.x.cells
      obtain ⟨g0, g1, g2, g3, _⟩ := id hK''.out.g
      cases S with
      | false =>
        obtain rfl : R = 10 := HR.out.symm.trans (by simp)
        clear HR
        go_wp2
        go_ret
        exact ⟨rfl, hK''.out.b⟩
      | true =>
      have hr := HR.out
      rw [if_neg (by simp)] at hr
      clear HR
      have HR := hid hr
      clear hr
      by_cases t0 : 24 < starts.length
      · have t0a : (24 : Int) < (starts.length : Int) := by omega
        have t0d : decide ((24 : Int) < (starts.length : Int)) = true := decide_eq_true t0a
        obtain rfl : R = 2 := by have hr := HR.out; rw [← hr, if_pos t0]
        clear HR
        go_wp2
        go_ret
        exact ⟨rfl, hK''.out.b⟩
      have t0a : ¬ (24 : Int) < (starts.length : Int) := by omega
      have t0d : decide ((24 : Int) < (starts.length : Int)) = false := decide_eq_false t0a
      have hr := HR.out
      rw [if_neg t0] at hr
      clear HR
      have HR := hid hr
      clear hr
      have hT2 : Hid (startsGo (possB d s len) (prevAt starts 0) (starts.drop 0) = T) := hid (by rw [← HT0.out]; exact (startsGo_congr _ _ (fun t => fit_poss HFR.out (by omega) (by omega) t) none starts).symm)
      go_wp2
      clear x0 x1 x2 x3 x4 x5 x6 x7 x8 g0 g1 g2 g3 t0a t0d
      go_loopw [8] (fun iv wr => ∃ i : Nat, iv = .int .i64 (i : Int) ∧ i ≤ starts.length ∧ Hid (startsGo (possB d s len) (prevAt starts i) (starts.drop i) = T) ∧ Hid (KT w #[.string X0, .string X1, .string X2, .int .i64 len, .slice aP pats.length cP, .int .i64 seats, .slice aF nF cF, .slice aS nS cS, .slice aT starts.length cT] d s b m wr)) (fun iv _ => starts.length - (RowKit.intOf iv).toNat)
      case atStart => exact ⟨0, rfl, Nat.zero_le _, hT2, hK''⟩
      case round =>
        clear hK hK' hK''
        obtain ⟨i, rfl, hi, hE, hK⟩ := hrel
        obtain ⟨x0, x1, x2, x3, x4, x5, x6, x7, x8⟩ := hK.out.x.cells
        obtain ⟨g0, g1, g2, g3, _⟩ := id hK.out.g
        by_cases hlt : i < starts.length
        · have hltz : (i : Int) < (starts.length : Int) := by omega
          have dk : decide (starts.length ≤ i) = false := decide_eq_false (by omega)
          obtain ⟨lb, lo, rfl, hlb, p0, p1⟩ := (HTI.out wr hK.out.b).start hlt
          have cI := fun W => rpossible_any starts[i] len d s b m (by omega) (by omega) (by have := HS24.out; omega) W
          unfold Says at cI
          obtain ⟨⟨y, u⟩, hy⟩ : ∃ y, starts[i] = y := ⟨_, rfl⟩
          have HY := hid hy
          rw [hy] at p0 p1 cI
          dsimp only at p0 p1 cI
          obtain ⟨F, hF⟩ : ∃ F, possB d s len (y, u) = F := ⟨_, rfl⟩
          rw [hF] at cI
          have HFF : Hid (possB d s len starts[i] = F) := hid (by rw [hy]; exact hF)
          have cI' : ∀ d' os, Calls Tryz.prog 82 #[.agg #[.int .i64 y, .int .i64 u], .int .i64 len, .agg #[.int .i64 d, .int .i64 s, .int .i64 b, .int .i64 m]] (grow (redrawn wr d') os) fun e w'' => e = .returned (.bool F) ∧ ∃ p : Regrown, w'' = grow (redrawn wr p.d) p.os := fun d' os => Calls.regrown_of (cI _)
          have CI := hid cI'
          have a3 := cell_regrown x3
          have a8 := cell_regrown x8
          have b0 := cell_regrown g0
          have b1 := cell_regrown g1
          have b2 := cell_regrown g2
          have b3 := cell_regrown g3
          have e0 := cell_regrown p0
          have e1 := cell_regrown p1
          clear cI cI' hF hy x0 x1 x2 x3 x4 x5 x6 x7 g0 g1 g2 g3 p0 p1
          cases F with
          | false =>
            have HT : Hid (T = false) := hid (by rw [← hE.out]; exact startsGo_bad _ starts i hlt HFF.out)
            have HRR : Hid (R = 14) := hid (by have hr := HR.out; rw [HT.out] at hr; exact hr.symm)
            go_wp2
            clear x8
            refine wp_region_quiet_below (by kernel_rfl) (by kernel_rfl) ?_
            repeat (go_big_quiet_step (exact CI.out _ _))
            refine wpQuiet_nil ?_
            intro _ hw'
            obtain ⟨⟨dq, osq⟩, hw''⟩ := hw'
            subst hw''
            go_wp2
            go_ret
            rw [HRR.out]
            exact ⟨rfl, (hK.out.next (below_regrown wr dq osq)).b⟩
          | true =>
            by_cases h0 : i = 0
            · have hst : startsGo (possB d s len) (prevAt starts i) (starts.drop i) = startsGo (possB d s len) (prevAt starts (i + 1)) (starts.drop (i + 1)) := by
                subst h0
                exact startsGo_zero _ starts hlt HFF.out
              rw [hE.out] at hst
              have h0z : ¬ (0 : Int) < (i : Int) := by omega
              have h0d : decide ((0 : Int) < (i : Int)) = false := decide_eq_false h0z
              have h0e : decide (0 < i) = false := decide_eq_false (by omega)
              have HST := hid hst
              clear hst h0
              go_wp2
              clear x8
              refine wp_region_quiet_below (by kernel_rfl) (by kernel_rfl) ?_
              repeat (go_big_quiet_step (exact CI.out _ _))
              refine wpQuiet_nil ?_
              intro _ hw'
              obtain ⟨⟨dq, osq⟩, hw''⟩ := hw'
              subst hw''
              have HK3 := hid (hK.out.next (below_regrown wr dq osq))
              clear hK
              go_wp2
              go_roundw
              case rel => exact ⟨i + 1, by go_num, by omega, hid HST.out.symm, HK3⟩
              case measure => simp [RowKit.intOf]; omega
            · obtain ⟨k, hk⟩ : ∃ k, k + 1 = i := ⟨i - 1, by omega⟩
              have hkl : k < starts.length := by omega
              have hst : startsGo (possB d s len) (prevAt starts i) (starts.drop i) = (ltB starts[k] starts[i] && startsGo (possB d s len) (prevAt starts (i + 1)) (starts.drop (i + 1))) := by
                subst hk
                exact startsGo_succ _ starts k hlt HFF.out
              rw [hE.out, HY.out] at hst
              obtain ⟨lb', lo', hA', _, p2, p3⟩ := (HTI.out wr hK.out.b).start hkl
              injection hA' with hA'
              injection hA' with e1' e2' _
              subst e1' e2'
              have cO := fun W => rless_any starts[k] (y, u) W
              unfold Says at cO
              obtain ⟨⟨y', u'⟩, hy'⟩ : ∃ y, starts[k] = y := ⟨_, rfl⟩
              rw [hy'] at p2 p3 hst cO
              dsimp only at p2 p3 cO
              obtain ⟨D, hD⟩ : ∃ D, ltB (y', u') (y, u) = D := ⟨_, rfl⟩
              rw [hD] at cO hst
              have cO' : ∀ d' os, Calls Tryz.prog 83 #[.agg #[.int .i64 y', .int .i64 u'], .agg #[.int .i64 y, .int .i64 u]] (grow (redrawn wr d') os) fun e w'' => e = .returned (.bool D) ∧ ∃ p : Regrown, w'' = grow (redrawn wr p.d) p.os := fun d' os => Calls.regrown_of (cO _)
              have CO := hid cO'
              have e2 := cell_regrown p2
              have e3 := cell_regrown p3
              have q1 : IntKind.i64.wrap ((i : Int) - 1) = (k : Int) := by rw [show (i : Int) - 1 = (k : Int) by omega]; exact IntWalk.i64_in _ (by omega)
              have q2 : (i : Int) - 1 = (k : Int) := by omega
              have hkz : (k : Int) < (starts.length : Int) := by omega
              have h0z : (0 : Int) < (i : Int) := by omega
              have h0d : decide ((0 : Int) < (i : Int)) = true := decide_eq_true h0z
              have h0e : decide (0 < i) = true := decide_eq_true (by omega)
              have HQ2 := hid q2
              clear cO cO' hD hy' p2 p3 q2 hk h0
              cases D with
              | false =>
                have HT : Hid (T = false) := hid hst
                have HRR : Hid (R = 14) := hid (by have hr := HR.out; rw [HT.out] at hr; exact hr.symm)
                clear hst
                go_wp2
                clear x8
                refine wp_region_quiet_below (by kernel_rfl) (by kernel_rfl) ?_
                repeat (go_big_quiet_step (first | exact CI.out _ _ | exact CO.out _ _))
                refine wpQuiet_nil ?_
                intro _ hw'
                obtain ⟨⟨dq, osq⟩, hw''⟩ := hw'
                subst hw''
                go_wp2
                go_ret
                rw [HRR.out]
                exact ⟨rfl, (hK.out.next (below_regrown wr dq osq)).b⟩
              | true =>
                have HST : Hid (T = startsGo (possB d s len) (prevAt starts (i + 1)) (starts.drop (i + 1))) := hid (by rw [hst, Bool.true_and])
                clear hst
                go_wp2
                clear x8
                refine wp_region_quiet_below (by kernel_rfl) (by kernel_rfl) ?_
                repeat (go_big_quiet_step (first | exact CI.out _ _ | exact CO.out _ _))
                refine wpQuiet_nil ?_
                intro _ hw'
                obtain ⟨⟨dq, osq⟩, hw''⟩ := hw'
                subst hw''
                have HK3 := hid (hK.out.next (below_regrown wr dq osq))
                clear hK
                go_wp2
                go_roundw
                case rel => exact ⟨i + 1, by go_num, by omega, hid HST.out.symm, HK3⟩
                case measure => simp [RowKit.intOf]; omega
        · have hltz : ¬ (i : Int) < (starts.length : Int) := by omega
          have HRR : Hid (R = 0) := hid (by
            have h := hE.out
            rw [List.drop_of_length_le (by omega)] at h
            have hr := HR.out
            rw [← h] at hr
            exact hr.symm)
          go_wp2
          go_ret
          rw [HRR.out]
          exact ⟨rfl, hK.out.b⟩
end Go.Proofs.YtigdcgklpapfbaaGreatDoor.S10

