/-
  Ascending codes by the specification: Rises, Codes. Conditions: the strings lie in memory.
-/
import Derived.Test.YtigdcgklpapfbaaGreatDoorVN01
import Derived.Test.YtigdcgklpapfbaaGreatDoorVN02
import Derived.Test.YtigdcgklpapfbaaGreatDoorVN03
import Derived.Test.YtigdcgklpapfbaaGreatDoorVN04
import Derived.Test.YtigdcgklpapfbaaGreatDoorVN09
import Derived.Test.YtigdcgklpapfbaaGreatDoorVN10
import Derived.Test.YtigdcgklpapfbaaGreatDoorVN11
import Derived.Test.YtigdcgklpapfbaaGreatDoorVN12
import Derived.Test.YtigdcgklpapfbaaGreatDoorVN13
import Derived.Test.YtigdcgklpapfbaaGreatDoorVN14
import Derived.Test.YtigdcgklpapfbaaGreatDoorVN20
import Derived.Test.YtigdcgklpapfbaaGreatDoorProg
import Derived.WalkKit
import Derived.WalkSpells
import Derived.WalkLawsBesides
import Derived.Lib.Hide
import Derived.Deep.QuietTactic
import Derived.BigQuiet
import Derived.Laws.Rows
import Derived.OwnWalk
import Derived.Lib.BufferWrite
import Derived.Lib.UnsafeStr
import Derived.Laws.IdiomStrings
import Derived.Laws.BytesArg
import Derived.Laws.BytesString
import Derived.Laws.OwnMore
import Derived.Lib.IndexLaws
import Derived.Lib.ItoaNum
import Derived.Lib.Atoi
import Derived.Laws.BitsAllLaws
import Derived.Laws.BitsLemmas
import Derived.Deep.MidRow
import Derived.Shelf.Strings.Builder1
import Derived.Shelf.Strings.Builder2
import Derived.Shelf.Strings.OnBuilder
import Derived.Shelf.Strings.Trim
import Derived.Shelf.Small.Bits
import Derived.Shelf.Small.Strs
import Derived.Shelf.Small.Wraps
import Derived.Shelf.Strings.BuilderF
import Derived.Shelf.Strings.BuilderK
import Derived.Shelf.Strings.Builder2Cap
import Derived.Shelf.Strconv.Atoi
import Derived.Shelf.Strconv.Itoa0
import Derived.Shelf.Strconv.Itoa1
import Derived.Shelf.LaysM
import Derived.Shelf.Strconv.Itoa2
import Derived.Shelf.Strconv.Itoa3
import Derived.Shelf.Strconv.AtoiErrFast
import Derived.Shelf.Strconv.ParseIntEmpty
import Derived.Shelf.Strconv.AtoiFail
import Derived.Shelf.Strconv.Clone
import Derived.Shelf.Strconv.SyntaxError
import Derived.Shelf.LaysC
import Derived.Shelf.Strconv.ToError
import Derived.Shelf.Strconv.AtoiErr
import Derived.Shelf.Strings.Search1
import Derived.Shelf.Strings.Search2
import Derived.Shelf.Strings.Search3
import Derived.Shelf.Strings.Cut
import Derived.Shelf.Strings.Shaped
import Derived.Shelf.Strings.Prefix
import Derived.Shelf.Strings.Runes
import Derived.Shelf.Strings.AsciiSet
import Derived.Shelf.Bits.Mul64
import Derived.Shelf.Strings.Repeat
import Derived.Shelf.Unicode.DecodeSlow
import Derived.Shelf.Strings.BuilderCap
import Derived.Shelf.Slices.Turned
import Derived.Ground.SlgfProg
import Derived.Shelf.SlicesE.IndexFunc
import Derived.Lib.AtoiErrMem
import Derived.Handy
import Derived.RangeFuncNested
import Derived.RangeFuncBound
import Derived.RangeFuncCalls
import Derived.RangeFuncLeaves
import Derived.Shelf.Abstract
import Derived.Shelf.RegionOpen
import Derived.OwnWalkIn
import Derived.Lib.Bytealg
import Derived.Lib.SlTrimSet
import Derived.Shelf.Strings.SlTrimAscii
import Derived.Laws.ResultCell
import Derived.RegionTactic
import Derived.Lib.Repeat
import Derived.Deep.RegionHeld3
import Derived.Lib.SlicesS
import Derived.TacticsInMore
import Derived.LoopNIn
import Derived.LoopIn
import Derived.Deep.DeepCutAuto
import Derived.Lib.Join
import Derived.Laws.Concat
import Derived.Sort.Walk0
set_option linter.unusedVariables false
namespace Go.Proofs.YtigdcgklpapfbaaGreatDoor
open Go Go.Proofs Go.RowKit Go.Lib

set_option maxHeartbeats 4000000 in
set_option maxRecDepth 100000 in
theorem rises_any (A : Option Addr) (l : List Str) (c : Nat) (Pp : Nat → Prop) (w : World) (h : S3.StrsIn w Pp A l) (hlc : l.length ≤ c) (hc : c ≤ 9223372036854775807) :
    Calls Tryz.prog 116 #[.slice A l.length c] w fun e w' => e = .returned (.bool (risesL l)) ∧ ∃ q, w' = w.drewN q := by
  obtain ⟨R, hR⟩ : ∃ R, risesL l = R := ⟨_, rfl⟩
  rw [hR]
  have H := hid h
  have HR := hid hR
  clear hR h
  go_enter Tryz.func116, Tryz.ntmps116
  go_wp2
  go_loopw [3] (fun iv wr => ∃ i : Nat, iv = .int .i64 (i : Int) ∧ 1 ≤ i ∧ i ≤ l.length + 1 ∧ Hid (∀ j (hj : j + 1 < l.length), j + 1 < i → l[j] < l[j + 1]) ∧ ∃ q, wr = w.drewN q) (fun iv _ => l.length + 1 - (RowKit.intOf iv).toNat)
  case atStart => exact ⟨1, rfl, Nat.le_refl _, by omega, hid (fun j _ h => by omega), 0, rfl⟩
  case round =>
    obtain ⟨i, rfl, hi1, hi, hE, q, rfl⟩ := hrel
    by_cases hlt : i < l.length
    · have hltz : (i : Int) < (l.length : Int) := by omega
      obtain ⟨b, off, rfl, _, hcs⟩ := strs_cell H.out hlt
      have hc1 := hcs i hlt
      obtain ⟨k, hk⟩ : ∃ k, k + 1 = i := ⟨i - 1, by omega⟩
      have hkl : k < l.length := by omega
      have hc2 := hcs k hkl
      have q1 : IntKind.i64.wrap ((i : Int) - 1) = (k : Int) := by rw [show (i : Int) - 1 = (k : Int) by omega]; exact IntWalk.i64_in _ (by omega)
      have q2 : (i : Int) - 1 = (k : Int) := by omega
      have hkz : (k : Int) < (l.length : Int) := by omega
      have d1 : decide ((l.length : Int) ≤ (i : Int)) = false := decide_eq_false (by omega)
      have d2 : decide ((l.length : Int) ≤ (k : Int)) = false := decide_eq_false (by omega)
      have d3 : decide (l.length ≤ i) = false := decide_eq_false (by omega)
      have d4 : decide (l.length ≤ k) = false := decide_eq_false (by omega)
      obtain ⟨x, hx⟩ : ∃ x, l[i] = x := ⟨_, rfl⟩
      have HXX := hid hx
      rw [hx] at hc1
      obtain ⟨X, hX⟩ : ∃ X, ba x = X := ⟨_, rfl⟩
      rw [hX] at hc1
      have hXl : lst X = x := by rw [← hX]; rfl
      obtain ⟨y, hy⟩ : ∃ y, l[k] = y := ⟨_, rfl⟩
      have HYY := hid hy
      rw [hy] at hc2
      obtain ⟨Y, hY⟩ : ∃ Y, ba y = Y := ⟨_, rfl⟩
      rw [hY] at hc2
      have hYl : lst Y = y := by rw [← hY]; rfl
      have hcmp := le_bits X Y
      rw [hXl, hYl] at hcmp
      clear hx hX hXl hy hY hYl
      by_cases hlt2 : y < x
      · rw [decide_eq_false (fun h => h hlt2)] at hcmp
        have hst : Hid (∀ j (hj : j + 1 < l.length), j + 1 < i + 1 → l[j] < l[j + 1]) := hid (fun j hj hji => by
          by_cases e : j + 1 < i
          · exact hE.out j hj e
          · obtain rfl : j = k := by omega
            subst hk
            rw [HYY.out, HXX.out]
            exact hlt2)
        have hc3 : Op.bytesLess X.toList Y.toList = false := by
          cases hb : Op.bytesLess X.toList Y.toList with
          | false => rfl
          | true => rw [hb] at hcmp; simp at hcmp
        have hc4 : (X.toList == Y.toList) = false := by rw [hc3, Bool.false_or] at hcmp; exact hcmp
        clear hcs hcmp hlt2 hk
        go_wp2
        go_quiet (fail)
        go_wp2
        go_roundw
        case rel => exact ⟨i + 1, by go_num, by omega, by omega, hst, q + nq, by first | rfl | rw [World.drewN_drewN]⟩
        case measure => simp [RowKit.intOf]; omega
      · rw [decide_eq_true hlt2] at hcmp
        have hn : R = false := by
          rw [← HR.out]
          refine rises_false l k (by omega) ?_
          rw [HYY.out]
          have : l[k + 1]'(by omega) = x := by
            rw [← HXX.out]
            congr 1
          rw [this]
          exact hlt2
        subst hn
        clear hcs hlt2 hk
        go_wp2
        go_quiet (fail)
        go_wp2
        go_ret
        exact ⟨rfl, q + nq, by first | rfl | rw [World.drewN_drewN]⟩
    · have hltz : ¬ (i : Int) < (l.length : Int) := by omega
      have hn : R = true := by
        rw [← HR.out]
        exact (rises_iff l).2 (fun j hj => hE.out j hj (by omega))
      subst hn
      go_wp2
      go_ret
      exact ⟨rfl, q, rfl⟩

set_option maxHeartbeats 4000000 in
set_option maxRecDepth 100000 in
theorem rcodes_any (A : Option Addr) (l : List Str) (c : Nat) (Pp : Nat → Prop) (w : World) (h : S3.StrsIn w Pp A l) (hlc : l.length ≤ c) (hc : c ≤ 9223372036854775807) :
    Calls Tryz.prog 81 #[.slice A l.length c] w fun e w' => e = .returned (.bool (featB l)) ∧ ∃ q, w' = w.drewN q := by
  have cR := hid (rises_any A l c Pp w h hlc hc)
  obtain ⟨R, hR⟩ : ∃ R, featB l = R := ⟨_, rfl⟩
  rw [hR]
  have H := hid h
  have HR := hid hR
  clear hR h
  go_enter Tryz.func81, Tryz.ntmps81
  go_wp2
  go_loop [3] (fun iv => ∃ i : Nat, iv = .int .i64 (i : Int) ∧ i ≤ l.length ∧ Hid (∀ j (hj : j < l.length), j < i → S3.validC l[j] = true)) (fun iv => l.length - (RowKit.intOf iv).toNat)
  case atStart => exact ⟨0, rfl, Nat.zero_le _, hid (fun j _ h => absurd h (Nat.not_lt_zero _))⟩
  case round =>
    obtain ⟨i, rfl, hi, hE⟩ := hrel
    by_cases hlt : i < l.length
    · have hltz : (i : Int) < (l.length : Int) := by omega
      obtain ⟨b, off, rfl, _, hcs⟩ := strs_cell H.out hlt
      have hc1 := hcs i hlt
      have cV := S3.refValid_any (ba l[i])
      have HB := hid (featB_bad_code l i hlt)
      obtain ⟨x, hx⟩ : ∃ x, l[i] = x := ⟨_, rfl⟩
      have HXX := hid hx
      rw [hx] at hc1 cV HB
      rw [show (ba x).data.toList = x from rfl] at cV
      obtain ⟨X, hX⟩ : ∃ X, ba x = X := ⟨_, rfl⟩
      rw [hX] at hc1 cV
      clear hx hX hcs
      cases hv : S3.validC x with
      | false =>
        rw [hv] at cV
        have hn : R = false := by rw [← HR.out]; exact HB.out hv
        subst hn
        clear hv HB
        go_wp2_with fail
        refine (cV _).mono ?_
        rintro e w' ⟨rfl, rfl⟩
        go_wp2
        go_ret
        exact ⟨rfl, 0, rfl⟩
      | true =>
        rw [hv] at cV
        have hst : Hid (∀ j (hj : j < l.length), j < i + 1 → S3.validC l[j] = true) := hid (fun j hj hji => by
          by_cases e : j < i
          · exact hE.out j hj e
          · obtain rfl : j = i := by omega
            rw [HXX.out]
            exact hv)
        clear hv HB
        go_wp2_with fail
        refine (cV _).mono ?_
        rintro e w' ⟨rfl, rfl⟩
        go_wp2
        go_round
        case rel => exact ⟨i + 1, by go_num, by omega, hst⟩
        case measure => simp [RowKit.intOf]; omega
    · have hltz : ¬ (i : Int) < (l.length : Int) := by omega
      have hall : l.all S3.validC = true := by
        rw [List.all_eq_true]
        intro x hx
        obtain ⟨j, hj, rfl⟩ := List.mem_iff_getElem.1 hx
        exact hE.out j hj (by omega)
      have hn : risesL l = R := by rw [← HR.out]; unfold featB; rw [hall, Bool.true_and]
      have cR' := cR.out
      rw [hn] at cR'
      have CR := hid cR'
      clear hn hall cR' cR
      go_wp2_with fail
      refine CR.out.mono ?_
      rintro e w' ⟨rfl, q, rfl⟩
      go_wp2
      go_ret
      exact ⟨rfl, q, rfl⟩
end Go.Proofs.YtigdcgklpapfbaaGreatDoor

