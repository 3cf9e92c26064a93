/-
  The first error of classes by the specification: Valid. Conditions: the classes lie in memory.
  The texts of starts by the specification: Name of a day, decimals of two digits. Conditions: the table of the days' names holds what its text lays.
  The reference's tail and number: a code's last number. Conditions: as the lemmas state.
  A number with a width: the law's wide. Conditions: the number is not negative and below 2^31; the width is at most 16.
  The reference's written: a number in decimal with a width. Conditions: the number is below ten to the seventeenth, the width at most 16.
  The reference's follows: whether a code is the next one of another. Conditions: both are at most 16 bytes long, the width is at most 16.
  The runs of the reference's Join, one after another: mathematics.
-/
import Derived.Test.YtigdcgklpapfbaaGreatDoorVN01
import Derived.Test.YtigdcgklpapfbaaGreatDoorVN02
import Derived.Test.YtigdcgklpapfbaaGreatDoorVN03
import Derived.Test.YtigdcgklpapfbaaGreatDoorVN04
import Derived.Test.YtigdcgklpapfbaaGreatDoorVN05
import Derived.Test.YtigdcgklpapfbaaGreatDoorVN06
import Derived.Test.YtigdcgklpapfbaaGreatDoorVN07
import Derived.Test.YtigdcgklpapfbaaGreatDoorVN08
import Derived.Test.YtigdcgklpapfbaaGreatDoorVN09
import Derived.Test.YtigdcgklpapfbaaGreatDoorVN10
import Derived.Test.YtigdcgklpapfbaaGreatDoorVN11
import Derived.Test.YtigdcgklpapfbaaGreatDoorVN12
import Derived.Test.YtigdcgklpapfbaaGreatDoorVN13
import Derived.Test.YtigdcgklpapfbaaGreatDoorVN14
import Derived.Test.YtigdcgklpapfbaaGreatDoorVN15
import Derived.Test.YtigdcgklpapfbaaGreatDoorVN16
import Derived.Test.YtigdcgklpapfbaaGreatDoorVN17
import Derived.Test.YtigdcgklpapfbaaGreatDoorVN18
import Derived.Test.YtigdcgklpapfbaaGreatDoorVN19
import Derived.Test.YtigdcgklpapfbaaGreatDoorVN20
import Derived.Test.YtigdcgklpapfbaaGreatDoorVN21
import Derived.Test.YtigdcgklpapfbaaGreatDoorVN22
import Derived.Test.YtigdcgklpapfbaaGreatDoorVN23
import Derived.Test.YtigdcgklpapfbaaGreatDoorVN24
import Derived.Test.YtigdcgklpapfbaaGreatDoorVN25
import Derived.Test.YtigdcgklpapfbaaGreatDoorVN26
import Derived.Test.YtigdcgklpapfbaaGreatDoorVN27
import Derived.Test.YtigdcgklpapfbaaGreatDoorProg
import Derived.WalkKit
import Derived.WalkSpells
import Derived.WalkLawsBesides
import Derived.Lib.Hide
import Derived.Deep.QuietTactic
import Derived.BigQuiet
import Derived.Laws.Rows
import Derived.OwnWalk
import Derived.Lib.BufferWrite
import Derived.Lib.UnsafeStr
import Derived.Laws.IdiomStrings
import Derived.Laws.BytesArg
import Derived.Laws.BytesString
import Derived.Laws.OwnMore
import Derived.Lib.IndexLaws
import Derived.Lib.ItoaNum
import Derived.Lib.Atoi
import Derived.Laws.BitsAllLaws
import Derived.Laws.BitsLemmas
import Derived.Deep.MidRow
import Derived.Shelf.Strings.Builder1
import Derived.Shelf.Strings.Builder2
import Derived.Shelf.Strings.OnBuilder
import Derived.Shelf.Strings.Trim
import Derived.Shelf.Small.Bits
import Derived.Shelf.Small.Strs
import Derived.Shelf.Small.Wraps
import Derived.Shelf.Strings.BuilderF
import Derived.Shelf.Strings.BuilderK
import Derived.Shelf.Strings.Builder2Cap
import Derived.Shelf.Strconv.Atoi
import Derived.Shelf.Strconv.Itoa0
import Derived.Shelf.Strconv.Itoa1
import Derived.Shelf.LaysM
import Derived.Shelf.Strconv.Itoa2
import Derived.Shelf.Strconv.Itoa3
import Derived.Shelf.Strconv.AtoiErrFast
import Derived.Shelf.Strconv.ParseIntEmpty
import Derived.Shelf.Strconv.AtoiFail
import Derived.Shelf.Strconv.Clone
import Derived.Shelf.Strconv.SyntaxError
import Derived.Shelf.LaysC
import Derived.Shelf.Strconv.ToError
import Derived.Shelf.Strconv.AtoiErr
import Derived.Shelf.Strings.Search1
import Derived.Shelf.Strings.Search2
import Derived.Shelf.Strings.Search3
import Derived.Shelf.Strings.Cut
import Derived.Shelf.Strings.Shaped
import Derived.Shelf.Strings.Prefix
import Derived.Shelf.Strings.Runes
import Derived.Shelf.Strings.AsciiSet
import Derived.Shelf.Bits.Mul64
import Derived.Shelf.Strings.Repeat
import Derived.Shelf.Unicode.DecodeSlow
import Derived.Shelf.Strings.BuilderCap
import Derived.Shelf.Slices.Turned
import Derived.Ground.SlgfProg
import Derived.Shelf.SlicesE.IndexFunc
import Derived.Lib.AtoiErrMem
import Derived.Handy
import Derived.RangeFuncNested
import Derived.RangeFuncBound
import Derived.RangeFuncCalls
import Derived.RangeFuncLeaves
import Derived.Shelf.Abstract
import Derived.Shelf.RegionOpen
import Derived.OwnWalkIn
import Derived.Lib.Bytealg
import Derived.Lib.SlTrimSet
import Derived.Shelf.Strings.SlTrimAscii
import Derived.Laws.ResultCell
import Derived.RegionTactic
import Derived.Lib.Repeat
import Derived.Deep.RegionHeld3
import Derived.Lib.SlicesS
import Derived.TacticsInMore
import Derived.LoopNIn
import Derived.LoopIn
import Derived.Deep.DeepCutAuto
import Derived.Lib.Join
import Derived.Laws.Concat
import Derived.Maps.OwnSet
import Derived.Maps.Range
import Derived.Sort.EncStr
import Derived.Deep.RegionLaw
import Derived.Sort.Grow
import Derived.Shelf.SlGeneric
import Derived.Shelf.SlSortCmp.NoneTotal
import Derived.Ground.SlsfProg
import Derived.Sort.OwnSorted
import Derived.RangeFuncBox
import Derived.Sort.Walk0
import Derived.Lib.AppendIntMem
import Derived.Lib.QuietBelow
import Derived.WalkMore
import Derived.Maps.AppendAt
set_option linter.unusedVariables false
namespace Go.Proofs.YtigdcgklpapfbaaGreatDoor.S10
open Go Go.Proofs Go.RowKit Go.Lib Go.Proofs.YtigdcgklpapfbaaGreatDoor
open Go.Sort

set_option maxHeartbeats 16000000 in
set_option maxRecDepth 100000 in
theorem rkvalid_any (d s b m n : Int) (A : Option Addr) (l : List ClassD) (c : Nat) (w : World) (h : ClassesIn w (fun k => k < w.heap.size) A l) :
    Calls Tryz.prog 17 #[.slice A l.length c, .agg #[.int .i64 d, .int .i64 s, .int .i64 b, .int .i64 m], .int .i64 n] w (Says (.int .i64 (validK d s b m n l)) w) := by
  have cF := fun w => usable_any d s b m n w
  unfold Says at cF ⊢
  obtain ⟨R, hR⟩ : ∃ R, validK d s b m n l = R := ⟨_, rfl⟩
  rw [hR]
  unfold validK at hR
  have hk := K1.first w d s b m 24
  have HK := hid hk
  have HH := hid h
  clear hk h
  cases hf : frameB d s b m n with
  | false =>
    rw [hf] at cF hR
    rw [if_pos rfl] at hR
    subst hR
    clear hf
    go_enter Tryz.func17, Tryz.ntmps17
    go_wp2_with fail
    refine (cF _).mono ?_
    rintro e w1 ⟨rfl, hb⟩
    have hk := HK.out.next hb
    clear hb HK
    go_wp2
    go_ret
    exact ⟨rfl, hk.b⟩
  | true =>
    rw [hf] at cF hR
    rw [if_neg (by simp)] at hR
    by_cases h16 : 24 < l.length
    · rw [if_pos h16] at hR
      subst hR
      have hz : (24 : Int) < (l.length : Int) := by omega
      clear hf
      go_enter Tryz.func17, Tryz.ntmps17
      go_wp2_with fail
      refine (cF _).mono ?_
      rintro e w1 ⟨rfl, hb⟩
      have hk := HK.out.next hb
      clear hb HK
      go_wp2
      go_ret
      exact ⟨rfl, hk.b⟩
    · rw [if_neg h16] at hR
      have hz : ¬ (24 : Int) < (l.length : Int) := by omega
      have HR : Hid (goK d s b m n (codesK (l.take 0)) (l.drop 0) = R) := hid hR
      have HF := hid hf
      clear hf hR
      go_enter Tryz.func17, Tryz.ntmps17
      go_wp2_with fail
      refine (cF _).mono ?_
      rintro e w1 ⟨rfl, hb⟩
      have hk := HK.out.next hb
      have HK1 := hid hk
      clear hb HK hk
      go_wp2
      go_loopw [7, 8] (fun iv _ wr => ∃ i : Nat, iv = .int .i64 (i : Int) ∧ i ≤ l.length ∧ Hid (goK d s b m n (codesK (l.take i)) (l.drop i) = R) ∧ Hid (K1 w d s b m wr)) (fun iv _ _ => l.length - (RowKit.intOf iv).toNat)
      case atStart => exact ⟨0, rfl, Nat.zero_le _, HR, hid HK1.out⟩
      case round =>
        obtain ⟨i, rfl, hi, hE, hK⟩ := hrel
        by_cases hlt : i < l.length
        · have hltz : (i : Int) < (l.length : Int) := by omega
          have dk : decide (l.length ≤ i) = false := decide_eq_false (by omega)
          have hst := goK_step d s b m n l i hlt
          rw [hE.out] at hst
          obtain ⟨fb, fo, q, rfl, hfb, hri, hat⟩ := (HH.out.below hK.out.b).at_ hlt
          have hci : (codesK l)[i]'(by simpa [codesK] using hlt) = l[i].code := by simp [codesK]
          have hix := idxG_lt (codesK l) i (by simpa [codesK] using hlt)
          rw [hci, show (codesK l).take i = codesK (l.take i) by simp [codesK, List.map_take]] at hix
          have cC := fun (W : World) (hb : Below wr.heap.size wr W) => rcheck_any d s b m n l[i] q W (((hri.below (hb.mono hK.out.b.size)).mono (fun k hk => Nat.lt_of_lt_of_le hk (Nat.le_trans hK.out.b.size hb.size)))) HF.out
          have cI : Hid (∀ W, Below w.heap.size w W → Calls Tryz.prog 54 #[.slice (some ⟨fb, fo, none⟩) l.length c, .string (ba l[i].code)] W fun e w' => e = .returned (.int .i64 (idxG (codesK l) l[i].code 0)) ∧ W = w') :=
            hid (fun W hb => rindex_any (some ⟨fb, fo, none⟩) l c (ba l[i].code) W ((HH.out.below hb).mono (fun k hk => Nat.lt_of_lt_of_le hk hb.size)) (by omega))
          obtain ⟨x, hr⟩ : ∃ r, l[i] = r := ⟨_, rfl⟩
          rw [hr] at hst hat hix cC cI
          obtain ⟨J, hJ⟩ : ∃ J, idxG (codesK l) x.code 0 = J := ⟨_, rfl⟩
          rw [hJ] at cI hix
          obtain ⟨E, hE2⟩ : ∃ E, checkM d s b m n x = E := ⟨_, rfl⟩
          rw [hE2] at hst cC
          obtain ⟨Q, hQ⟩ : ∃ Q, (x.code ∈ codesK (l.take i)) = Q := ⟨_, rfl⟩
          have HST := hid hst
          have HIX := hid hix
          obtain ⟨c0, c1, c2, len, pats, seats, feats, staff, starts⟩ := x
          obtain ⟨aP, cP, aF, cF, aS, cS, aT, cT⟩ := q
          unfold Says clsV at cC
          unfold ClassAt at hat
          dsimp only at hat cC cI
          obtain ⟨X0, hX0⟩ : ∃ X, ba c0 = X := ⟨_, rfl⟩
          obtain ⟨X1, hX1⟩ : ∃ X, ba c1 = X := ⟨_, rfl⟩
          obtain ⟨X2, hX2⟩ : ∃ X, ba c2 = X := ⟨_, rfl⟩
          obtain ⟨nP, hnP⟩ : ∃ F, pats.length = F := ⟨_, rfl⟩
          obtain ⟨nF, hnF⟩ : ∃ F, feats.length = F := ⟨_, rfl⟩
          obtain ⟨nS, hnS⟩ : ∃ F, staff.length = F := ⟨_, rfl⟩
          obtain ⟨nT, hnT⟩ : ∃ F, starts.length = F := ⟨_, rfl⟩
          rw [hX0, hX1, hX2, hnP, hnF, hnS, hnT] at hat cC
          rw [hX0] at cI
          obtain ⟨y0, y1, y2, y3, y4, y5, y6, y7, y8⟩ := hat
          have hY0 : ∀ W, Below wr.heap.size wr W → W.cell? ⟨fb, fo + i * 9, none⟩ = some (.string X0) := fun W hb => (hb.cell (p := ⟨fb, fo + i * 9, none⟩) (Nat.lt_of_lt_of_le hfb hK.out.b.size)).trans y0
          have cC' : ∀ d' os, Calls Tryz.prog 53 #[.agg #[.string X0, .string X1, .string X2, .int .i64 len, .slice aP nP cP, .int .i64 seats, .slice aF nF cF, .slice aS nS cS, .slice aT nT cT], .agg #[.int .i64 d, .int .i64 s, .int .i64 b, .int .i64 m], .int .i64 n] (grow (redrawn wr d') os) fun e w'' => e = .returned (.int .i64 E) ∧ ∃ p : Regrown, w'' = grow (redrawn wr p.d) p.os := fun d' os => Calls.regrown_of (cC _ (below_regrown wr d' os))
          obtain ⟨g0, g1, g2, g3, _⟩ := id hK.out.x
          have a0 := cell_regrown y0
          have a1 := cell_regrown y1
          have a2 := cell_regrown y2
          have a3 := cell_regrown y3
          have a4 := cell_regrown y4
          have a5 := cell_regrown y5
          have a6 := cell_regrown y6
          have a7 := cell_regrown y7
          have a8 := cell_regrown y8
          have b0 := cell_regrown g0
          have b1 := cell_regrown g1
          have b2 := cell_regrown g2
          have b3 := cell_regrown g3
          have CC := hid cC'
          have HY0 := hid hY0
          have H24 := hid h16
          clear hr hst hix hci hri hE cC cC' hX0 hX1 hX2 hnP hnF hnS hnT hE2 hJ hY0 h16 y0 y1 y2 y3 y4 y5 y6 y7 y8 g0 g1 g2 g3 hQ Q
          go_wp2
          refine wp_region_quiet_below (by kernel_rfl) (by kernel_rfl) ?_
          repeat (go_big_quiet_step (exact CC.out _ _))
          refine wpQuiet_nil ?_
          intro _ hw'
          obtain ⟨⟨dq, osq⟩, hw''⟩ := hw'
          subst hw''
          have HK3 := hid (hK.out.next (below_regrown wr dq osq))
          have hy0 := HY0.out _ (below_regrown wr dq osq)
          clear HY0 CC hK a0 a1 a2 a3 a4 a5 a6 a7 a8 b0 b1 b2 b3
          generalize grow (redrawn wr dq) osq = w2 at HK3 hy0 ⊢
          by_cases hE0 : E = 0
          · subst hE0
            have hst := HST.out
            rw [if_neg (by simp)] at hst
            by_cases hm : c0 ∈ codesK (l.take i)
            · rw [if_pos hm] at hst
              have hJi : J < (i : Int) := HIX.out.2 hm
              have hJd : decide (J < (i : Int)) = true := decide_eq_true hJi
              have HRR := hid hst
              have CI := hid (cI.out _ HK3.out.b)
              clear hst hm cI HST HIX
              go_wp2_with fail
              refine CI.out.mono ?_
              rintro e w' ⟨rfl, rfl⟩
              go_wp2
              go_ret
              rw [HRR.out]
              exact ⟨rfl, HK3.out.b⟩
            · rw [if_neg hm] at hst
              have hJi : ¬ J < (i : Int) := fun h => hm (HIX.out.1 h)
              have hJd : decide (J < (i : Int)) = false := decide_eq_false hJi
              have HRR := hid hst.symm
              have CI := hid (cI.out _ HK3.out.b)
              clear hst hm cI HST HIX
              go_wp2_with fail
              refine CI.out.mono ?_
              rintro e w' ⟨rfl, rfl⟩
              go_wp2
              go_roundw
              case rel => exact ⟨i + 1, by go_num, by omega, HRR, HK3⟩
              case measure => simp [RowKit.intOf]; omega
          · have hst := HST.out
            rw [if_pos hE0] at hst
            have u1 : (E != 0) = true := by simpa using hE0
            have u2 : (E == 0) = false := by simpa using hE0
            have HRR := hid hst
            clear hst cI HST HIX
            go_wp2
            go_ret
            rw [HRR.out]
            exact ⟨rfl, HK3.out.b⟩
        · have hltz : ¬ (i : Int) < (l.length : Int) := by omega
          have hn : Hid (R = 0) := hid (by rw [← hE.out, List.drop_of_length_le (by omega)]; rfl)
          go_wp2
          go_ret
          rw [hn.out]
          exact ⟨rfl, hK.out.b⟩
end Go.Proofs.YtigdcgklpapfbaaGreatDoor.S10

set_option linter.unusedVariables false
namespace Go.Proofs.YtigdcgklpapfbaaGreatDoor.S10
open Go Go.Proofs Go.RowKit Go.Lib Go.Proofs.YtigdcgklpapfbaaGreatDoor

set_option maxHeartbeats 1000000 in
theorem rname_any (y : Nat) (hy : y < 7) (w : World) (hT : RDays w) : Calls Tryz.prog 37 #[.int .i64 (y : Int)] w fun e w' => e = .returned (.string (ba (dayS y))) ∧ w = w' := by
  have h0 := hT.at_ y hy
  have hz : (y : Int) < 7 := by omega
  have hz0 : (0 : Int) ≤ (y : Int) := by omega
  obtain ⟨X, hX⟩ : ∃ X, ba (dayS y) = X := ⟨_, rfl⟩
  rw [hX] at h0 ⊢
  clear hT hX
  go_enter Tryz.func37, Tryz.ntmps37
  go_wp2
  go_ret
  exact ⟨rfl, rfl⟩
theorem dec2_digits (u : Nat) (h : u < 100) : dec2 u = decDigits u := by
  by_cases h1 : u < 10
  · rw [decDigits_one h1]
    unfold dec2
    rw [if_pos h1]
  · rw [dd_step u h1, decDigits_one (show u / 10 < 10 by omega), decDigits_one (show u % 10 < 10 by omega)]
    unfold dec2
    rw [if_neg h1]
    rfl
/-- The text of a start that fits. -/
theorem startS_eq {d s b m len : Int} {t : StartD} (h0 : fitS d s b m len t = true) : ∃ y u : Nat, t = ((y : Int), (u : Int)) ∧ y < 7 ∧ u < 24 ∧ startS d s b m t = dayS y ++ 32 :: decDigits (u + 1) := by
  have h1 : fitsM d s b m 1 1 t.1 t.2 len = 0 := of_decide_eq_true h0
  unfold fitsM at h1
  by_cases hf : frameB d s b m 1 = true
  · rw [if_pos hf] at h1
    by_cases hc : soundB 1 t.1 t.2 len = true ∧ validM 1 1 = true ∧ t.1 < d ∧ t.2 + len ≤ s
    · obtain ⟨k1, k2, k3, k4⟩ := hc
      obtain ⟨j1, ⟨j2, j3⟩, j4, j5, j6⟩ := sound_of k1
      have hS : soundB 1 t.1 t.2 1 = true := decide_eq_true ⟨j1, ⟨j2, j3⟩, j4, by omega, by omega⟩
      have hF : fitsM d s b m 1 1 t.1 t.2 1 = 0 := by
        unfold fitsM
        rw [if_pos hf, if_pos ⟨hS, k2, k3, by omega⟩]
      obtain ⟨ty, tu⟩ := t
      dsimp only at *
      refine ⟨ty.toNat, tu.toNat, by rw [Int.toNat_of_nonneg j2, Int.toNat_of_nonneg j4], by omega, by omega, ?_⟩
      unfold startS timeS textT
      dsimp only
      rw [if_pos hF]
      unfold timeT
      dsimp only
      have e1 : (1 : Int).toNat = 1 := rfl
      rw [e1]
      have hall : formN 1 1 = [97, 108, 108] := by decide
      rw [if_pos hall]
      unfold itemT
      rw [if_pos rfl, dec2_digits _ (by omega), List.append_nil]
    · rw [if_neg hc] at h1
      simp at h1
  · rw [if_neg hf] at h1
    simp at h1
end Go.Proofs.YtigdcgklpapfbaaGreatDoor.S10

set_option linter.unusedVariables false
namespace Go.Proofs.YtigdcgklpapfbaaGreatDoor.S3
open Go Go.Proofs Go.RowKit Go.Lib

theorem pre_dg (s : Str) (x : UInt8) (h0 : 0 < (preS s).length) (hx : s[(preS s).length - 1]? = some x) : dg x = false := by
  have hs := pre_split s
  have h2 : (preS s)[(preS s).length - 1]? = some x := by
    have : s[(preS s).length - 1]? = (preS s ++ lastS s)[(preS s).length - 1]? := by rw [hs]
    rw [this, List.getElem?_append_left (by omega)] at hx
    exact hx
  rw [← List.getLast?_eq_getElem?] at h2
  obtain ⟨ys, h3⟩ := List.getLast?_eq_some_iff.1 h2
  exact pre_end s _ x h3
theorem last_dg (s : Str) (j : Nat) (x : UInt8) (h : (preS s).length ≤ j) (hx : s[j]? = some x) : dg x = true := by
  refine last_dgs s x ?_
  refine List.mem_of_getElem? (i := j - (preS s).length) ?_
  unfold lastS
  rw [List.getElem?_drop, show (preS s).length + (j - (preS s).length) = j by omega]
  exact hx
theorem lst_get (s : ByteArray) (j : Nat) (h : j < s.size) : (lst s)[j]? = some (s[j]'h) := by
  have : j < s.data.size := h
  show s.data.toList[j]? = _
  rw [Array.getElem?_toList, Array.getElem?_eq_getElem this]
  rfl

set_option maxHeartbeats 4000000 in
set_option maxRecDepth 100000 in
theorem tail_any (s : ByteArray) (hs : s.size ≤ 16) (w : World) : Calls Tryz.prog 72 #[.string s] w fun e w' => e = .returned (.tuple #[.string (ba (preS (lst s))), .string (ba (lastS (lst s)))]) ∧ ∃ q, w' = w.drewN q := by
  have hsp := congrArg List.length (pre_split (lst s))
  rw [List.length_append, ← Lib.size_eq] at hsp
  have hD := fun j h h1 => last_dg (lst s) j (s[j]'h) h1 (lst_get s j h)
  have hF := fun h h1 => pre_dg (lst s) (s[(preS (lst s)).length - 1]'h) h1 (lst_get s _ h)
  have e1 : s.extract 0 (preS (lst s)).length = ba (preS (lst s)) := by
    rw [← ba_lst (s.extract 0 (preS (lst s)).length), lst_extract]
    have := congrArg (List.take (preS (lst s)).length) (pre_split (lst s))
    rw [List.take_left] at this
    rw [← this, List.drop_zero]
    rfl
  have e2 : s.extract (preS (lst s)).length s.size = ba (lastS (lst s)) := by
    rw [← ba_lst (s.extract (preS (lst s)).length s.size), lst_extract, List.take_of_length_le (by rw [← Lib.size_eq]; exact Nat.le_refl _)]
    rfl
  rw [← e1, ← e2]
  generalize (preS (lst s)).length = n at hsp hD hF e1 e2 ⊢
  have HD := hid hD
  have HF := hid hF
  have hns : n ≤ s.size := by omega
  clear hD hF e1 e2 hsp
  go_enter Tryz.func72, Tryz.ntmps72
  go_wp2
  go_loop [4] (fun i => ∃ k : Nat, n ≤ k ∧ k ≤ s.size ∧ i = .int .i64 (k : Int)) (fun i => (RowKit.intOf i).toNat)
  case atStart => exact ⟨s.size, hns, Nat.le_refl _, rfl⟩
  case round =>
    obtain ⟨k, hk1, hk2, rfl⟩ := hrel
    rcases Nat.eq_zero_or_pos k with rfl | hk0
    · obtain rfl : n = 0 := by omega
      go_wp2
      go_quiet (fail)
      go_wp2
      go_ret2
      exact ⟨by simp, _, rfl⟩
    · obtain ⟨m, rfl⟩ : ∃ m, k = m + 1 := ⟨k - 1, by omega⟩
      have hm : m < s.size := by omega
      have cD := digit_any (s[m]'hm)
      have hz : (0 : Int) < (m : Int) + 1 := by omega
      have hw : IntKind.i64.wrap ((m : Int) + 1 - 1) = (m : Int) := by rw [IntWalk.i64_in _ (by omega)]; omega
      have hw2 : ((m : Int) + 1 - 1) = (m : Int) := by omega
      by_cases hnm : n ≤ m
      · rw [HD.out m hm hnm] at cD
        go_wp2_with fail
        refine (cD _).mono ?_
        rintro e w1 ⟨rfl, rfl⟩
        go_wp2
        go_roundw
        case rel => exact ⟨m, hnm, by omega, rfl⟩
        case measure => simp [RowKit.intOf]
      · obtain rfl : n = m + 1 := by omega
        have hf : dg (s[m]'hm) = false := HF.out (show m + 1 - 1 < s.size from hm) (by omega)
        rw [hf] at cD
        have h1 : (m : Int) + 1 ≤ (s.size : Int) := by omega
        go_wp2_with fail
        refine (cD _).mono ?_
        rintro e w1 ⟨rfl, rfl⟩
        go_wp2
        go_quiet (fail)
        go_wp2
        go_ret2
        exact ⟨rfl, _, rfl⟩

theorem num_snoc (l : Str) (x : UInt8) : numN (l ++ [x]) = 10 * numN l + (x.toNat - 48) := by
  unfold numN
  rw [List.foldl_append]
  rfl
set_option maxHeartbeats 4000000 in
set_option maxRecDepth 100000 in
theorem number_any (s : ByteArray) (hs : s.size ≤ 16) (hd : Dgs (lst s)) (w : World) : Calls Tryz.prog 104 #[.string s] w fun e w' => e = .returned (.int .i64 (numN (lst s) : Int)) ∧ w = w' := by
  have hN : ∀ k (h : k < s.size), numN ((lst s).take (k + 1)) = 10 * numN ((lst s).take k) + ((s[k]'h).toNat - 48) ∧ 48 ≤ (s[k]'h).toNat ∧ (s[k]'h).toNat ≤ 57 := fun k h => by
    have hg := lst_get s k h
    have h1 := dg_val (hd _ (List.mem_of_getElem? hg))
    refine ⟨?_, h1⟩
    rw [← num_snoc, List.take_add_one, hg]
    rfl
  have hL : ∀ k, k ≤ s.size → numN ((lst s).take k) < 10000000000000001 := fun k h => by
    have h1 := numN_lt ((lst s).take k) (fun c hc => hd c (List.mem_of_mem_take hc))
    have h2 : 10 ^ ((lst s).take k).length ≤ 10 ^ 16 := Nat.pow_le_pow_right (by omega) (by simp; omega)
    have h3 : 10 ^ 16 = 10000000000000000 := by decide
    omega
  have hE : numN (lst s) = numN ((lst s).take s.size) := by rw [List.take_of_length_le (by rw [← Lib.size_eq]; exact Nat.le_refl _)]
  have HN := hid hN
  have HL := hid hL
  have HE := hid hE
  clear hN hL hE hd
  rw [HE.out]
  go_enter Tryz.func104, Tryz.ntmps104
  go_wp2
  go_loop [3, 4] (fun v i => ∃ k n : Nat, k ≤ s.size ∧ i = .int .i64 (k : Int) ∧ v = .int .i64 (n : Int) ∧ Hid (numN ((lst s).take k) = n)) (fun _ i => s.size - (RowKit.intOf i).toNat)
  case atStart => exact ⟨0, 0, Nat.zero_le _, rfl, rfl, hid rfl⟩
  case round =>
    obtain ⟨k, n, hk, rfl, rfl, hv⟩ := hrel
    by_cases hlt : k < s.size
    · obtain ⟨h1, h2, h3⟩ := HN.out k hlt
      have h4 := HL.out k hk
      rw [hv.out] at h1 h4
      have hz : (k : Int) < (s.size : Int) := by omega
      obtain ⟨x, hx⟩ : ∃ x, s[k]'hlt = x := ⟨_, rfl⟩
      rw [hx] at h1 h2 h3
      have q1 : IntKind.u8.wrap ((x.toNat : Int) - 48) = (x.toNat : Int) - 48 := by simp [IntKind.wrap, IntKind.bits, IntKind.signed]; omega
      have q2 : IntKind.i64.wrap ((x.toNat : Int) - 48) = (x.toNat : Int) - 48 := IntWalk.i64_in _ (by omega)
      have q3 : IntKind.i64.wrap (10 * (n : Int)) = 10 * (n : Int) := IntWalk.i64_in _ (by omega)
      have q4 : IntKind.i64.wrap (10 * (n : Int) + ((x.toNat : Int) - 48)) = 10 * (n : Int) + ((x.toNat : Int) - 48) := IntWalk.i64_in _ (by omega)
      have H1 := hid h1
      clear h1
      go_wp2
      go_roundw
      case rel => exact ⟨k + 1, 10 * n + (x.toNat - 48), by omega, by go_num, by congr 1; omega, H1⟩
      case measure => simp [RowKit.intOf]; omega
    · obtain rfl : k = s.size := by omega
      go_wp2
      go_ret
      exact ⟨by rw [hv.out]; rfl, rfl⟩
end Go.Proofs.YtigdcgklpapfbaaGreatDoor.S3

set_option linter.unusedVariables false
namespace Go.Proofs.YtigdcgklpapfbaaGreatDoor.S3
open Go Go.Proofs Go.RowKit Go.Lib

def one48 (d : Nat) : UInt8 := UInt8.ofNat (48 + d)
/-- Between two rounds of the first loop. -/
def WideAt (n u : Nat) (s : Str) : Prop := (s = [] ∧ u = n) ∨ (s ≠ [] ∧ ((u = 0 ∧ s = decDigits n) ∨ (0 < u ∧ decDigits u ++ s = decDigits n)))
theorem WideAt.step {n u : Nat} {s : Str} (h : WideAt n u s) (hg : 0 < u ∨ s = []) : WideAt n (u / 10) (one48 (u % 10) :: s) := by
  have hd : u % 10 < 10 := Nat.mod_lt _ (by omega)
  refine .inr ⟨by simp, ?_⟩
  by_cases hm : u / 10 = 0
  · have hu : u < 10 := by omega
    have hmod : u % 10 = u := Nat.mod_eq_of_lt hu
    refine .inl ⟨hm, ?_⟩
    rw [hmod]
    rcases h with ⟨rfl, rfl⟩ | ⟨hs, ⟨h0, _⟩ | ⟨h0, h1⟩⟩
    · rw [dec_small hu]; rfl
    · rcases hg with hg | hg
      · omega
      · exact absurd hg hs
    · rw [← h1, dec_small hu]; rfl
  · have hu : u = 10 * (u / 10) + u % 10 := by omega
    have hst : decDigits u = decDigits (u / 10) ++ [one48 (u % 10)] := by
      have := dec_step (u / 10) (u % 10) (by omega) hd
      rw [← hu] at this
      exact this
    refine .inr ⟨by omega, ?_⟩
    rcases h with ⟨rfl, rfl⟩ | ⟨hs, ⟨h0, _⟩ | ⟨h0, h1⟩⟩
    · rw [hst]
    · omega
    · rw [← h1, hst]; simp
theorem WideAt.done {n u : Nat} {s : Str} (h : WideAt n u s) (hg : ¬ (0 < u ∨ s = [])) : s = decDigits n := by
  rcases h with ⟨rfl, rfl⟩ | ⟨hs, ⟨h0, h1⟩ | ⟨h0, _⟩⟩
  · exact absurd (.inr rfl) hg
  · exact h1
  · exact absurd (.inl h0) hg

theorem WideAt.len {n u : Nat} {s : Str} (h : WideAt n u s) (hn : n < 2147483648) : s.length ≤ 10 := by
  have hl := dec_len n 10 (by omega) (by omega)
  rcases h with ⟨rfl, rfl⟩ | ⟨hs, ⟨h0, h1⟩ | ⟨h0, h1⟩⟩
  · simp
  · rw [h1]; exact hl
  · have := congrArg List.length h1
    rw [List.length_append] at this
    omega
end Go.Proofs.YtigdcgklpapfbaaGreatDoor.S3

set_option linter.unusedVariables false
namespace Go.Proofs.YtigdcgklpapfbaaGreatDoor.S3
open Go Go.Proofs Go.RowKit Go.Lib

theorem WideAt.short {n u : Nat} {s : Str} (h : WideAt n u s) : s.length ≤ (decDigits n).length := by
  rcases h with ⟨rfl, rfl⟩ | ⟨hs, ⟨h0, h1⟩ | ⟨h0, h1⟩⟩
  · simp
  · rw [h1]; exact Nat.le_refl _
  · have := congrArg List.length h1
    rw [List.length_append] at this
    omega
/-- A slice's length. -/
def vLen : Value → Nat | .slice _ n _ => n | _ => 0
def BRow (w : World) (B : Nat) (v : Value) (l : List UInt8) : Prop := w.ownsRow B 5 1 v l.length (byteCells l)
theorem byte_one (l : List UInt8) : ∀ u ∈ byteCells l, u.oneCell' = true := by
  intro u hu
  obtain ⟨x, _, rfl⟩ := List.mem_map.1 hu
  exact one_one .u8 (x.toNat : Int) _ (List.mem_singleton.2 rfl)
theorem one48_val (u : Nat) : ((one48 (u % 10)).toNat : Int) = 48 + (u : Int) % 10 := by
  have hd : u % 10 < 10 := Nat.mod_lt _ (by omega)
  unfold one48
  rw [ofNat_val hd]
  omega
theorem BRow.some {w : World} {B : Nat} {v : Value} {l : List UInt8} (h : BRow w B v l) (hl : l ≠ []) : ∃ g cap, v = .slice (some ⟨g, 0, none⟩) l.length cap ∧ B ≤ g ∧ ∀ j u, (byteCells l)[j]? = some u → w.cell? ((⟨g, 0, none⟩ : Addr).add j) = some u := by
  have h' := h
  rcases h.2 with ⟨_, h0⟩ | ⟨g, cap, cur, rfl, hB, _⟩
  · exact absurd (List.eq_nil_of_length_eq_zero h0) hl
  · exact ⟨g, cap, rfl, hB, World.ownsRow.cells h' rfl⟩
theorem new_byte (w : World) (B : Nat) (hB : B ≤ w.heap.size) (z : Value) : (w.alloc (.cells #[z] 5)).ownsRow B 5 1 (.slice (some ⟨w.heap.size, 0, none⟩) 1 1) 1 [z] :=
  World.ownsRow_lit w #[z] 1 hB (by decide) rfl
theorem new_below (w : World) (B : Nat) (hB : B ≤ w.heap.size) (o : Obj) : Below B w (w.alloc o) := (Below.refl w.heap.size w).alloc (Nat.le_refl _) o |>.mono hB

set_option maxHeartbeats 8000000 in
set_option maxRecDepth 100000 in
theorem written_any (n k : Nat) (hn : n < 100000000000000000) (hk : k ≤ 16) (w : World) : Calls Tryz.prog 103 #[.int .i64 (n : Int), .int .i64 (k : Int)] w fun e w' => e = .returned (.string (ba (wrS n k))) ∧ Below w.heap.size w w' := by
  have hdl := dec_len n 17 (by omega) (by omega)
  obtain ⟨i5, hi5, hz5, hsi5, hby5⟩ := info_parts infoByte
  go_enter Tryz.func103, Tryz.ntmps103
  go_wp2
  go_loopw [0, 5] (fun uv v wr => ∃ (u : Nat) (bs : Str), uv = .int .i64 (u : Int) ∧ BRow wr w.heap.size v bs ∧ u ≤ n ∧ Hid (WideAt n u bs) ∧ Hid (bs = [] → v = .slice none 0 0) ∧ Hid (Below w.heap.size w wr)) (fun uv v _ => 2 * (RowKit.intOf uv).toNat + (1 - vLen v))
  case atStart => exact ⟨n, [], rfl, World.ownsRow_nil _ _ _ _, Nat.le_refl _, hid (.inl ⟨rfl, rfl⟩), hid (fun _ => rfl), hid (Below.refl _ _)⟩
  case round =>
    obtain ⟨u, bs, rfl, hrow, hun, HW, hnil, HB⟩ := hrel
    have hsz := HB.out.size
    have hbl := HW.out.short
    have hu62 : u < 100000000000000000 := by omega
    by_cases hbs : bs = []
    · have hv := hnil.out hbs
      subst hv
      by_cases hu : 0 < u
      · have hu1 : decide (0 < (u : Int)) = true := decide_eq_true (by omega)
        have hu2 : (0 : Int) < (u : Int) := by omega
        have hap := run_append_owned_none (P := Tryz.prog) (w := wr.alloc (Obj.cells #[Value.int IntKind.u8 (48 + (u : Int) % 10)] 5)) w.heap.size 101 101 5 i5 1 Tryz.underlying101 hi5 _ 1 _ (new_byte wr w.heap.size hsz (Value.int IntKind.u8 (48 + (u : Int) % 10)))
        have hB2 := hid (HB.out.trans (new_below wr w.heap.size hsz (Obj.cells #[Value.int IntKind.u8 (48 + (u : Int) % 10)] 5)))
        go_wp2
        go_roundw
        case rel =>
          refine ⟨u / 10, one48 (u % 10) :: bs, by simp, ?_, by omega, hid (HW.out.step (.inl hu)), hid (fun h => by cases h), hB2⟩
          subst hbs
          unfold BRow
          show World.ownsRow _ _ _ _ _ 1 [Value.int .u8 ((one48 (u % 10)).toNat : Int)]
          rw [one48_val]
          exact new_byte wr w.heap.size hsz _
        case measure => simp [RowKit.intOf, vLen]; omega
      · obtain rfl : u = 0 := by omega
        have hap := run_append_owned_none (P := Tryz.prog) (w := wr.alloc (Obj.cells #[Value.int IntKind.u8 48] 5)) w.heap.size 101 101 5 i5 1 Tryz.underlying101 hi5 _ 1 _ (new_byte wr w.heap.size hsz (Value.int IntKind.u8 48))
        have hB2 := hid (HB.out.trans (new_below wr w.heap.size hsz (Obj.cells #[Value.int IntKind.u8 48] 5)))
        subst hbs
        go_wp2
        go_roundw
        case rel =>
          refine ⟨0, [one48 0], by simp, ?_, by omega, hid (HW.out.step (.inr rfl)), hid (fun h => by cases h), hB2⟩
          unfold BRow
          exact new_byte wr w.heap.size hsz _
        case measure => simp [RowKit.intOf, vLen]
    · obtain ⟨g, cap, rfl, hg, hcell⟩ := hrow.some hbs
      have hbpos : 0 < bs.length := List.length_pos_iff.2 hbs
      by_cases hu : 0 < u
      · have hu1 : decide (0 < (u : Int)) = true := decide_eq_true (by omega)
        have hu2 : (0 : Int) < (u : Int) := by omega
        have hcell2 : ∀ (o : Obj) j z, (byteCells bs)[j]? = some z → (wr.alloc o).cell? ((⟨g, 0, none⟩ : Addr).add j) = some z := fun o => (World.ownsRow.alloc hrow o).cells rfl
        have HC := hid hcell2
        have HC3 : Hid (1 + bs.length ≤ maxLen) := by unfold maxLen; exact hid (by omega)
        have HC4 : Hid ((1 + bs.length) * 1 ≤ 140737488355328) := hid (by omega)
        have HC5 : Hid (∀ o : Obj, w.heap.size ≤ (wr.alloc o).heap.size) := hid (fun o => by simp; omega)
        clear hcell hcell2
        go_wp2_with (at_builtin; refine wpList_append_own _ rfl _ _ 101 rfl w.heap.size 5 i5 (.int .u8 0) 1 1 Tryz.underlying101 hi5 hz5 hsi5 hby5 rfl (by decide) _ 1 [Value.int IntKind.u8 (48 + (u : Int) % 10)] rfl (new_byte wr w.heap.size hsz _) ⟨g, 0, none⟩ bs.length cap (byteCells bs) rfl (by rw [byteCells_len]; simp) (HC.out _) (byte_one _) HC3.out HC4.out (HC5.out _) ?_)
        intro v' w4 hown' hgrow _
        have hg' := grownBy_of_alloc hgrow
        have hb24 : Below w.heap.size wr w4 := (Below.refl _ wr).grown hg' hsz (fun k hk => by simp [Value.ownBlock] at hk; omega)
        have hrow4 : BRow w4 w.heap.size v' (one48 (u % 10) :: bs) := by
          unfold BRow
          show World.ownsRow _ _ _ _ _ (bs.length + 1) (Value.int .u8 ((one48 (u % 10)).toNat : Int) :: byteCells bs)
          rw [one48_val, Nat.add_comm]
          exact hown'
        obtain ⟨g', cap', rfl, _, _⟩ := hrow4.some (by simp)
        have HR4 := hid hrow4
        have HB4 := hid (HB.out.trans hb24)
        clear hb24 hg' hgrow hown' hrow4 hrow hnil HC HC3 HC4 HC5
        go_wp2
        go_roundw
        case rel => exact ⟨u / 10, one48 (u % 10) :: bs, by simp, HR4.out, by omega, hid (HW.out.step (.inl hu)), hid (fun h => by cases h), HB4⟩
        case measure => simp [RowKit.intOf, vLen]; omega
      · have hu2 : ¬ (0 : Int) < (u : Int) := by omega
        have hdec : bs = decDigits n := HW.out.done (by rintro (h | h); omega; exact hbs h)
        have hbz : ¬ ((bs.length : Int) = 0) := by omega
        have hbz2 : ((bs.length : Int) == 0) = false := by simpa using hbs
        have HROW := hid hrow
        have HDEC := hid hdec
        clear hcell hrow hnil hdec
        go_wp2
        go_loopw [5] (fun v wq => ∃ (j : Nat) (cs : Str), BRow wq w.heap.size v cs ∧ cs ≠ [] ∧ Hid (cs = zerosS j ++ decDigits n) ∧ Hid (j = 0 ∨ j + (decDigits n).length ≤ k) ∧ Hid (Below w.heap.size w wq)) (fun v _ => k - vLen v)
        case atStart => exact ⟨0, bs, HROW.out, hbs, hid (by rw [HDEC.out]; rfl), hid (.inl rfl), HB⟩
        case round =>
          obtain ⟨j, cs, hrow, hcs, hcz, hj, HB⟩ := hrel
          obtain ⟨g, cap, rfl, hg, hcell⟩ := hrow.some hcs
          have hlen : Hid (cs.length = j + (decDigits n).length) := hid (by rw [hcz.out]; simp [zerosS])
          have hcl : cs.length ≤ 17 := by
            have h1 := hlen.out
            rcases hj.out with h | h <;> omega
          have hsz := HB.out.size
          by_cases hlt : cs.length < k
          · have hltz : (cs.length : Int) < (k : Int) := by omega
            have hcell2 : ∀ (o : Obj) j z, (byteCells cs)[j]? = some z → (wr.alloc o).cell? ((⟨g, 0, none⟩ : Addr).add j) = some z := fun o => (World.ownsRow.alloc hrow o).cells rfl
            have HC := hid hcell2
            have HC3 : Hid (1 + cs.length ≤ maxLen) := by unfold maxLen; exact hid (by omega)
            have HC4 : Hid ((1 + cs.length) * 1 ≤ 140737488355328) := hid (by omega)
            have HC5 : Hid (∀ o : Obj, w.heap.size ≤ (wr.alloc o).heap.size) := hid (fun o => by simp; omega)
            clear hcell hcell2
            go_wp2_with (at_builtin; refine wpList_append_own _ rfl _ _ 101 rfl w.heap.size 5 i5 (.int .u8 0) 1 1 Tryz.underlying101 hi5 hz5 hsi5 hby5 rfl (by decide) _ 1 [Value.int IntKind.u8 48] rfl (new_byte wr w.heap.size hsz _) ⟨g, 0, none⟩ cs.length cap (byteCells cs) rfl (by rw [byteCells_len]; simp) (HC.out _) (byte_one _) HC3.out HC4.out (HC5.out _) ?_)
            intro v' w4 hown' hgrow _
            have hg' := grownBy_of_alloc hgrow
            have hb24 : Below w.heap.size wr w4 := (Below.refl _ wr).grown hg' hsz (fun k hk => by simp [Value.ownBlock] at hk; omega)
            have hrow4 : BRow w4 w.heap.size v' (48 :: cs) := by
              unfold BRow
              show World.ownsRow _ _ _ _ _ (cs.length + 1) (Value.int .u8 48 :: byteCells cs)
              rw [Nat.add_comm]
              exact hown'
            obtain ⟨g', cap', rfl, _, _⟩ := hrow4.some (by simp)
            have HR4 := hid hrow4
            have HB4 := hid (HB.out.trans hb24)
            clear hb24 hg' hgrow hown' hrow4 hrow HC HC3 HC4 HC5
            go_wp2
            go_roundw
            case rel => exact ⟨j + 1, 48 :: cs, HR4.out, by simp, hid (by rw [hcz.out]; simp [zerosS, List.replicate_succ]), hid (.inr (by have := hlen.out; omega)), HB4⟩
            case measure => simp [vLen]; omega
          · have hltz : ¬ (cs.length : Int) < (k : Int) := by omega
            have hcv := row_string (P := Tryz.prog) hrow 101 5 9 Tryz.underlying101 Tryz.underlying5 Tryz.underlying9
            have hz : Hid (⟨cs.toArray⟩ = ba (wrS n k)) := hid (by
              have hjk : j = k - (decDigits n).length := by
                have h1 := hlen.out
                rcases hj.out with h | h <;> omega
              show ba cs = _
              rw [hcz.out, hjk]
              rfl)
            clear hcell hrow hcz
            go_wp2
            go_ret
            exact ⟨by rw [← hz.out]; rfl, HB.out⟩
end Go.Proofs.YtigdcgklpapfbaaGreatDoor.S3

set_option linter.unusedVariables false
namespace Go.Proofs.YtigdcgklpapfbaaGreatDoor.S3
open Go Go.Proofs Go.RowKit Go.Lib

/-- Whether a code is the next one of another, in a width. -/
def followsB (c p : Str) (k : Nat) : Bool := hasL p && decide (c = preS p ++ wrS (numL p + 1) k)

set_option maxHeartbeats 4000000 in
set_option maxRecDepth 100000 in
theorem follows_any (c p : ByteArray) (k : Nat) (hc : c.size ≤ 16) (hp : p.size ≤ 16) (hk : k ≤ 16) (w : World) :
    Calls Tryz.prog 73 #[.string c, .string p, .int .i64 (k : Int)] w fun e w' => e = .returned (.bool (followsB (lst c) (lst p) k)) ∧ Below w.heap.size w w' := by
  have cT := tail_any p hp
  obtain ⟨h16l, h16p⟩ := last_len (lst p) (by rw [← Lib.size_eq]; exact hp)
  have hdg := last_dgs (lst p)
  have hnum : numL (lst p) < 10000000000000001 := by
    have h1 := numN_lt _ hdg
    have h2 : 10 ^ (lastS (lst p)).length ≤ 10 ^ 16 := Nat.pow_le_pow_right (by omega) h16l
    have h3 : 10 ^ 16 = 10000000000000000 := by decide
    unfold numL
    omega
  have cN := number_any (ba (lastS (lst p))) h16l hdg
  rw [show numN (lst (ba (lastS (lst p)))) = numL (lst p) from rfl] at cN
  obtain ⟨ANS, hANS⟩ : ∃ ANS, followsB (lst c) (lst p) k = ANS := ⟨_, rfl⟩
  rw [hANS]
  unfold followsB hasL at hANS
  have hsz : (ba (lastS (lst p))).size = (lastS (lst p)).length := rfl
  have hfz : (ba (preS (lst p))).size = (preS (lst p)).length := rfl
  obtain ⟨N, hN⟩ : ∃ N, numL (lst p) = N := ⟨_, rfl⟩
  rw [hN] at cN hnum hANS
  have hW := fun w => written_any (N + 1) k (by omega) hk w
  rw [show ((N + 1 : Nat) : Int) = (N : Int) + 1 by omega] at hW
  have hwl : (ba (wrS (N + 1) k)).size ≤ 20 := by
    have h1 := dec_len (N + 1) 17 (by omega) (by omega)
    show (wrS (N + 1) k).length ≤ 20
    rw [wr_len]
    omega
  by_cases h0 : 0 < (ba (lastS (lst p))).size
  · obtain ⟨x1, x2, x3, x4⟩ := str_no h0
    have hne : (lastS (lst p)).isEmpty = false := by
      cases h : lastS (lst p) with
      | nil => rw [h] at h0; exact absurd h0 (by decide)
      | cons a b => rfl
    rw [hne] at hANS
    generalize ba (lastS (lst p)) = LA at *
    have hS : ba (preS (lst p)) ++ ba (wrS (N + 1) k) = ba (preS (lst p) ++ wrS (N + 1) k) := by apply ByteArray.ext; simp [ba]
    have add1 : ∀ w, (Op.stringOp .add (ba (preS (lst p))) (ba (wrS (N + 1) k))).run Tryz.prog w = .ok (.string (ba (preS (lst p) ++ wrS (N + 1) k))) w := fun w => by
      rw [run_string_add_sum (w := w) _ _ (by omega), hS]
    have hw1 : IntKind.i64.wrap ((N : Int) + 1) = (N : Int) + 1 := IntWalk.i64_in _ (by omega)
    obtain ⟨S, hSS⟩ : ∃ S, ba (preS (lst p) ++ wrS (N + 1) k) = S := ⟨_, rfl⟩
    have hA2 : Hid (lst c = lst S → ANS = true) := hid (fun h => by
      rw [← hANS]
      rw [← hSS] at h
      simp
      exact h)
    have hA3 : Hid (¬ lst c = lst S → ANS = false) := hid (fun h => by
      rw [← hANS]
      rw [← hSS] at h
      simp
      exact h)
    rw [hSS] at add1
    generalize ba (preS (lst p)) = FR at *
    generalize ba (wrS (N + 1) k) = WR at *
    have CT := hid cT
    have CN := hid cN
    have CW := hid hW
    clear cT cN hW hS hSS hANS hdg h16l h16p hN hne hsz hfz
    rcases str_eq (a := c) (b := S) with ⟨he, t1, t2⟩ | ⟨he, t1, t2⟩
    · have hr := hA2.out he
      subst hr
      clear he hA2 hA3
      go_enter Tryz.func73, Tryz.ntmps73
      go_wp2_with fail
      refine (CT.out _).mono ?_
      rintro e w1 ⟨rfl, q, rfl⟩
      have HB1 : Hid (Below w.heap.size w (w.drewN q)) := hid (S3.below_drewN (Below.refl _ _) q)
      go_wp2_with fail
      refine (CN.out _).mono ?_
      rintro e w2 ⟨rfl, rfl⟩
      go_wp2_with fail
      refine (CW.out _).mono ?_
      rintro e w3 ⟨rfl, hb3⟩
      have HB3 := hid (HB1.out.trans (hb3.mono HB1.out.size))
      clear hb3
      go_wp2
      go_ret
      exact ⟨rfl, HB3.out⟩
    · have hr := hA3.out he
      subst hr
      clear he hA2 hA3
      go_enter Tryz.func73, Tryz.ntmps73
      go_wp2_with fail
      refine (CT.out _).mono ?_
      rintro e w1 ⟨rfl, q, rfl⟩
      have HB1 : Hid (Below w.heap.size w (w.drewN q)) := hid (S3.below_drewN (Below.refl _ _) q)
      go_wp2_with fail
      refine (CN.out _).mono ?_
      rintro e w2 ⟨rfl, rfl⟩
      go_wp2_with fail
      refine (CW.out _).mono ?_
      rintro e w3 ⟨rfl, hb3⟩
      have HB3 := hid (HB1.out.trans (hb3.mono HB1.out.size))
      clear hb3
      go_wp2
      go_ret
      exact ⟨rfl, HB3.out⟩
  · obtain ⟨x1, x2, x3, x4⟩ := str_yes h0
    have hne : (lastS (lst p)).isEmpty = true := by
      cases h : lastS (lst p) with
      | nil => rfl
      | cons a b => rw [h] at h0; exact absurd (Nat.succ_pos _) h0
    have hr : ANS = false := by rw [← hANS, hne]; rfl
    subst hr
    generalize ba (lastS (lst p)) = LA at *
    generalize ba (preS (lst p)) = FR at *
    have CT := hid cT
    clear cT cN hW hANS hdg h16l h16p hN hne hsz hfz
    go_enter Tryz.func73, Tryz.ntmps73
    go_wp2_with fail
    refine (CT.out _).mono ?_
    rintro e w1 ⟨rfl, q, rfl⟩
    have HB1 : Hid (Below w.heap.size w (w.drewN q)) := hid (S3.below_drewN (Below.refl _ _) q)
    go_wp2
    go_ret
    exact ⟨rfl, HB1.out⟩
end Go.Proofs.YtigdcgklpapfbaaGreatDoor.S3

set_option linter.unusedVariables false
namespace Go.Proofs.YtigdcgklpapfbaaGreatDoor.S3
open Go Go.Proofs Go.RowKit Go.Lib

theorem nth_zero (f : Str) (h : hasL f = true) : nthS f 0 = f := by
  unfold nthS numL
  rw [Nat.add_zero]
  have hne : (lastS f).length ≠ 0 := fun e => by
    have := List.eq_nil_of_length_eq_zero e
    unfold hasL at h
    rw [this] at h
    simp at h
  obtain ⟨k, hk⟩ : ∃ k, (lastS f).length = k + 1 := ⟨(lastS f).length - 1, by omega⟩
  rw [wr_self k _ hk (last_dgs f), pre_split]
theorem follows_nth (f c : Str) (d : Nat) : followsB c (nthS f d) (lastS f).length = decide (c = nthS f (d + 1)) := by
  unfold followsB
  rw [has_nth, pre_nth, num_nth]
  simp only [Bool.true_and]
  rfl
theorem follows_none (f c : Str) (k : Nat) (h : hasL f = false) : followsB c f k = false := by
  unfold followsB
  rw [h]
  rfl
/-- Between two rounds of the inner loop: the run begins with f, i of its codes are passed, the last of them is p, r is the rest. -/
structure RunAt (f : Str) (r0 : List Str) (i : Nat) (p : Str) (r : List Str) : Prop where
  one : 1 ≤ i
  run : aheadM (f :: r0) = if hasL f = true then aheadGo f i r else 1
  prev : hasL f = true → p = nthS f (i - 1)
  no : hasL f = false → i = 1 ∧ p = f
theorem RunAt.start (f : Str) (r : List Str) : RunAt f r 1 f r :=
  ⟨Nat.le_refl _, rfl, fun h => (nth_zero f h).symm, fun _ => ⟨rfl, rfl⟩⟩
theorem RunAt.on {f p c : Str} {r0 r : List Str} {i : Nat} (h : RunAt f r0 i p (c :: r)) (hf : followsB c p (lastS f).length = true) : RunAt f r0 (i + 1) c r := by
  cases hh : hasL f with
  | false =>
    obtain ⟨_, rfl⟩ := h.no hh
    rw [follows_none _ _ _ hh] at hf
    cases hf
  | true =>
    have h1 := h.one
    rw [h.prev hh, follows_nth, show i - 1 + 1 = i by omega] at hf
    have hc : c = nthS f i := by simpa using hf
    refine ⟨by omega, ?_, fun _ => by rw [Nat.add_sub_cancel]; exact hc, fun e => by rw [hh] at e; cases e⟩
    rw [h.run, if_pos hh, if_pos hh]
    exact if_pos hc
theorem RunAt.off {f p c : Str} {r0 r : List Str} {i : Nat} (h : RunAt f r0 i p (c :: r)) (hf : followsB c p (lastS f).length = false) : aheadM (f :: r0) = i := by
  cases hh : hasL f with
  | false =>
    rw [h.run, if_neg (by rw [hh]; simp)]
    exact (h.no hh).1.symm
  | true =>
    have h1 := h.one
    rw [h.prev hh, follows_nth, show i - 1 + 1 = i by omega] at hf
    have hc : ¬ c = nthS f i := by simpa using hf
    rw [h.run, if_pos hh]
    exact if_neg hc
theorem RunAt.end_ {f p : Str} {r0 : List Str} {i : Nat} (h : RunAt f r0 i p []) : aheadM (f :: r0) = i := by
  cases hh : hasL f with
  | false =>
    rw [h.run, if_neg (by rw [hh]; simp)]
    exact (h.no hh).1.symm
  | true =>
    rw [h.run, if_pos hh]
    rfl
theorem semi_snoc : ∀ (ps : List Str) (p : Str), semi (ps ++ [p]) = if ps = [] then p else semi ps ++ 59 :: p
  | [], p => rfl
  | [q], p => rfl
  | q :: x :: r, p => by
    have ih := semi_snoc (x :: r) p
    rw [if_neg (by simp)] at ih ⊢
    show q ++ 59 :: semi (x :: (r ++ [p])) = (q ++ 59 :: semi (x :: r)) ++ 59 :: p
    rw [show x :: (r ++ [p]) = x :: r ++ [p] from rfl, ih]
    simp
end Go.Proofs.YtigdcgklpapfbaaGreatDoor.S3

