/-
  The walk of TravelReads, given that the sanity check holds. Conditions: the records lie in memory, at most 500000000 of them.
-/
import Derived.Test.YtocmbifljkcmeaaDoorTN01
import Derived.Test.YtocmbifljkcmeaaDoorTN02
import Derived.Test.YtocmbifljkcmeaaDoorTN03
import Derived.Test.YtocmbifljkcmeaaDoorTN04
import Derived.Test.YtocmbifljkcmeaaDoorTN05
import Derived.Test.YtocmbifljkcmeaaDoorTN06
import Derived.Test.YtocmbifljkcmeaaDoorTN07
import Derived.Test.YtocmbifljkcmeaaDoorTN08
import Derived.Test.YtocmbifljkcmeaaDoorTN09
import Derived.Test.YtocmbifljkcmeaaDoorTN10
import Derived.Test.YtocmbifljkcmeaaDoorTN11
import Derived.Test.YtocmbifljkcmeaaDoorTN12
import Derived.Test.YtocmbifljkcmeaaDoorTN13
import Derived.Test.YtocmbifljkcmeaaDoorTN14
import Derived.Test.YtocmbifljkcmeaaDoorProg
import Derived.WalkKit
import Derived.WalkSpells
import Derived.WalkLawsBesides
import Derived.Lib.Hide
import Derived.Deep.QuietTactic
import Derived.BigQuiet
import Derived.Laws.Rows
import Derived.OwnWalk
import Derived.Lib.BufferWrite
import Derived.Lib.UnsafeStr
import Derived.Laws.IdiomStrings
import Derived.Laws.BytesArg
import Derived.Laws.BytesString
import Derived.Laws.OwnMore
import Derived.Lib.IndexLaws
import Derived.Lib.ItoaNum
import Derived.Lib.Atoi
import Derived.Lib.Bytealg
import Derived.Handy
import Derived.Laws.ResultCell
import Derived.RegionTactic
import Derived.Deep.DeepCutAuto
import Derived.Deep.CutBlock
import Derived.Deep.RegionHeld3
import Derived.Deep.RegionLaw
import Derived.Deep.RegionWith
import Derived.Deep.AppendLies
import Derived.Maps.AppendAt
import Derived.StillTailTactics
import Derived.Shelf.Abstract
import Derived.Lib.SliceRun
import Derived.RangeFuncBox
import Derived.Lib.SlTrimSet
import Derived.Shelf.Strconv.Atoi
import Derived.Shelf.Strconv.Itoa0
import Derived.Shelf.Strconv.Itoa1
import Derived.Shelf.LaysM
import Derived.Shelf.Strconv.Itoa2
import Derived.Shelf.Strconv.Itoa3
import Derived.Shelf.Strconv.AtoiErrFast
import Derived.Shelf.Strconv.ParseIntEmpty
import Derived.Shelf.Strconv.AtoiFail
import Derived.Shelf.Strconv.Clone
import Derived.Shelf.Strconv.SyntaxError
import Derived.Shelf.LaysC
import Derived.Shelf.Strconv.ToError
import Derived.Shelf.Strconv.AtoiErr
import Derived.Shelf.Bits.Mul64
import Derived.Shelf.Slices.Turned
import Derived.Laws.CopyOwn
import Derived.Lib.AtoiErrMem
import Derived.ArgAppend
import Derived.Deep.DeepAppendRoom
import Derived.Deep.RegionLawGrows
set_option linter.unusedVariables false
namespace Go.Proofs.YtocmbifljkcmeaaDoor
open Go Go.Proofs Go.RowKit Go.Lib

theorem readT_small (l : List RecD) : (readT l).1.1.length ≤ 8 ∧ (readT l).1.2.length ≤ 8 ∧ (∀ i, ((readT l).1.2.getD i []).length ≤ 8) ∧ (readT l).2.length ≤ l.length := by
  have h := (recsW_net l).b
  unfold readT
  refine ⟨h, by dsimp only; rw [tabF_len]; exact h, fun i => ?_, recsW_probs l⟩
  dsimp only
  by_cases hi : i < (recsW l).1.2.length
  · have hl : i < (tabF (tabW (recsW l).1) (recsW l).1.2.length).length := by rw [tabF_len]; exact hi
    have hg := List.getElem?_eq_getElem hl
    obtain ⟨_, hr⟩ := tabF_get _ _ hg
    have e : (tabF (tabW (recsW l).1) (recsW l).1.2.length).getD i [] = (tabF (tabW (recsW l).1) (recsW l).1.2.length)[i] := by simp [List.getD, hg]
    rw [e, hr, List.length_map, List.length_range]
    exact h
  · rw [List.getD_eq_getElem?_getD, List.getElem?_eq_none (by rw [tabF_len]; omega)]
    simp
/-- Behind both calls of Read. -/
structure RW8 (w0 w2 : World) (P1 : Nat) (a0 a1 : Value) (P2 : Nat) (b0 b1 : Value) (w : World) : Prop where
  g : Below w0.heap.size w0 w
  p : Box2 w P1 25 a0 a1
  q : Box2 w P2 25 b0 b1
  b : Below w2.heap.size w2 w
theorem RW8.next {w0 w2 w w' : World} {a0 a1 b0 b1 : Value} {P1 P2 : Nat} (h : RW8 w0 w2 P1 a0 a1 P2 b0 b1 w) (k : Below w.heap.size w w') : RW8 w0 w2 P1 a0 a1 P2 b0 b1 w' := ⟨h.g.trans (k.mono h.g.size), h.p.next k, h.q.next k, h.b.trans (k.mono h.b.size)⟩
theorem RW8.cells {w0 w2 w : World} {a0 a1 b0 b1 : Value} {P1 P2 : Nat} (h : RW8 w0 w2 P1 a0 a1 P2 b0 b1 w) : w.cell? ⟨P1, 0, none⟩ = some a0 ∧ w.cell? ⟨P1, 1, none⟩ = some a1 ∧ w.cell? ⟨P2, 0, none⟩ = some b0 ∧ w.cell? ⟨P2, 1, none⟩ = some b1 := ⟨h.p.c0, h.p.c1, h.q.c0, h.q.c1⟩
set_option maxHeartbeats 16000000 in
set_option maxRecDepth 100000 in
theorem treadsLaw_any (A : Option Addr) (l : List RecD) (c : Nat) (w : World) (h : RecsIn w (fun k => k < w.heap.size) A l) (hl : l.length ≤ 500000000) (hE : Env8 w)
    (hA : ∀ w', Below w.heap.size w w' → Calls Tryd.prog 5 #[] w' (Says (.bool true) w')) :
    Calls Tryd.prog 4 #[.slice A l.length c] w fun e w' => e = .returned (.bool true) ∧ Below w.heap.size w w' := by
  have hin : ∀ w', Below w.heap.size w w' → RecsIn w' (fun k => k < w'.heap.size) A l := fun w' hb => (h.below hb).mono (fun k hk => Nat.lt_of_lt_of_le hk hb.size)
  have cP := fun w' (hb : Below w.heap.size w w') => read8_any A l c w' (hin w' hb) (by omega) (hE.below hb hE.size)
  have cR := fun w' (hb : Below w.heap.size w w') => rread8_any A l c w' (hin w' hb) (by omega)
  have hsm := readT_small l
  unfold ReadOut8 at cP cR
  unfold Says at hA
  obtain ⟨⟨⟨BL, TL⟩, PS⟩, hO⟩ : ∃ O, readT l = O := ⟨_, rfl⟩
  rw [hO] at cP cR hsm
  dsimp only at cP cR hsm
  have CP := hid cP
  have CR := hid cR
  have CA := hid hA
  have HIN := hid hin
  have HSM := hid (And.intro hsm hl)
  clear h hE hin cP cR hA hO hsm
  go_enter Tryd.func4, Tryd.ntmps4
  go_wp2_with fail
  go_loopw [3] (fun iv wr => ∃ i : Nat, iv = .int .i64 (i : Int) ∧ i ≤ l.length ∧ Hid (∃ q, wr = w.drewN q)) (fun iv _ => l.length - (RowKit.intOf iv).toNat)
  case atStart => exact ⟨0, rfl, Nat.zero_le _, hid ⟨0, rfl⟩⟩
  case round =>
    obtain ⟨i, rfl, hi, HQ⟩ := hrel
    have hkr : Below w.heap.size w wr := by
      obtain ⟨q, hq⟩ := HQ.out
      rw [hq]
      exact S3.below_drewN (Below.refl _ w) q
    have HKR := hid hkr
    clear hkr
    by_cases hlt : i < l.length
    · have hltz : (i : Int) < (l.length : Int) := by omega
      obtain ⟨fb, fo, A', c', rfl, hfb, -, -, -, -, y1⟩ := (HIN.out wr HKR.out).at_ hlt
      obtain ⟨F, hF⟩ : ∃ F, l[i].2.length = F := ⟨_, rfl⟩
      rw [hF] at y1
      have hd : decide (l.length ≤ i) = false := decide_eq_false (by omega)
      clear hF
      by_cases h20 : 20 < F
      · have h20z : (20 : Int) < (F : Int) := by omega
        clear h20
        go_wp2_with fail
        refine (CA.out _ HKR.out).mono ?_
        rintro e w2 ⟨rfl, hb2⟩
        have HB2 := hid (HKR.out.trans (hb2.mono HKR.out.size))
        clear hb2
        go_wp2
        go_ret
        exact ⟨rfl, HB2.out⟩
      · have h20z : ¬ (20 : Int) < (F : Int) := by omega
        clear h20
        go_wp2
        go_roundw
        case rel => exact ⟨i + 1, by go_num, by omega, HQ⟩
        case measure => simp [RowKit.intOf]; omega
    · have hltz : ¬ (i : Int) < (l.length : Int) := by omega
      go_wp2_with fail
      refine (CP.out _ HKR.out).mono ?_
      rintro e w3 ⟨⟨A3, c3, S3', d3, p3, rfl, hT3, -, -, hp3⟩, hb3⟩
      have hb4 := (Below.refl w3.heap.size w3).alloc (Nat.le_refl _) (.cells #[.slice A3 BL.length c3, .slice S3' TL.length d3] 25)
      have hx4 := Box2.new w3 25 (.slice A3 BL.length c3) (.slice S3' TL.length d3)
      have hs4 : (w3.alloc (.cells #[.slice A3 BL.length c3, .slice S3' TL.length d3] 25)).heap.size = w3.heap.size + 1 := by simp
      obtain ⟨w4, hw4⟩ : ∃ W, w3.alloc (.cells #[.slice A3 BL.length c3, .slice S3' TL.length d3] 25) = W := ⟨_, rfl⟩
      rw [hw4] at hb4 hx4 hs4
      have hb04 := (HKR.out.trans (hb3.mono HKR.out.size)).trans (hb4.mono (by have := HKR.out.size; have := hb3.size; omega))
      have HB4 := hid hb04
      have HT4 : Hid (TravIn w4 (fun b => b < w4.heap.size) A3 S3' (BL, TL)) := hid ((hT3.kept (fun b hb => hb4.block b hb.2)).mono (fun b hb => by omega))
      have HP4 : Hid (ProbsRow w4 wr.heap.size p3 PS) := hid (S3.row_under hp3 hb4)
      have HX4 := hid hx4
      have HW4 := hid hw4
      clear hb3 hb4 hx4 hs4 hT3 hp3 hw4 hb04
      go_upto_region 7 with fail
      (try rw [HW4.out])
      go_wp2_with fail
      refine (CR.out _ HB4.out).mono ?_
      rintro e w5 ⟨⟨A5, c5, S5, d5, p5, rfl, hT5, -, -, hp5⟩, hb5⟩
      have hb6 := (Below.refl w5.heap.size w5).alloc (Nat.le_refl _) (.cells #[.slice A5 BL.length c5, .slice S5 TL.length d5] 25)
      have hx6 := Box2.new w5 25 (.slice A5 BL.length c5) (.slice S5 TL.length d5)
      have hs6 : (w5.alloc (.cells #[.slice A5 BL.length c5, .slice S5 TL.length d5] 25)).heap.size = w5.heap.size + 1 := by simp
      obtain ⟨w6, hw6⟩ : ∃ W, w5.alloc (.cells #[.slice A5 BL.length c5, .slice S5 TL.length d5] 25) = W := ⟨_, rfl⟩
      rw [hw6] at hb6 hx6 hs6
      have hb46 := hb5.trans (hb6.mono hb5.size)
      have hk' : RW8 w w6 w3.heap.size (.slice A3 BL.length c3) (.slice S3' TL.length d3) w5.heap.size (.slice A5 BL.length c5) (.slice S5 TL.length d5) w6 := ⟨HB4.out.trans (hb46.mono HB4.out.size), HX4.out.next hb46, hx6, Below.refl _ _⟩
      have hT4' : TravIn w6 (fun b => b < w6.heap.size) A3 S3' (BL, TL) := (HT4.out.below hb46).mono (fun b hb => Nat.lt_of_lt_of_le hb hb46.size)
      have hT6 : TravIn w6 (fun b => b < w6.heap.size) A5 S5 (BL, TL) := (hT5.kept (fun b hb => hb6.block b hb.2)).mono (fun b hb => by omega)
      have hp4' := S3.row_under HP4.out hb46
      have hp6 := S3.row_under hp5 hb6
      have hsz := HSM.out
      have cA : Hid (∀ wx, RW8 w w6 w3.heap.size (.slice A3 BL.length c3) (.slice S3' TL.length d3) w5.heap.size (.slice A5 BL.length c5) (.slice S5 TL.length d5) wx → Calls Tryd.prog 5 #[] wx fun e w' => e = .returned (.bool true) ∧ RW8 w w6 w3.heap.size (.slice A3 BL.length c3) (.slice S3' TL.length d3) w5.heap.size (.slice A5 BL.length c5) (.slice S5 TL.length d5) w') := hid fun wx h => (CA.out wx h.g).mono fun e w' ⟨he, hb⟩ => ⟨he, h.next hb⟩
      have cT : Hid (∀ wx, RW8 w w6 w3.heap.size (.slice A3 BL.length c3) (.slice S3' TL.length d3) w5.heap.size (.slice A5 BL.length c5) (.slice S5 TL.length d5) wx → Calls Tryd.prog 13 #[.agg #[.slice A3 BL.length c3, .slice S3' TL.length d3], .agg #[.slice A5 BL.length c5, .slice S5 TL.length d5]] wx fun e w' => e = .returned (.bool true) ∧ RW8 w w6 w3.heap.size (.slice A3 BL.length c3) (.slice S3' TL.length d3) w5.heap.size (.slice A5 BL.length c5) (.slice S5 TL.length d5) w') := hid fun wx h =>
        (same8_any A3 S3' A5 S5 BL TL c3 d3 c5 d5 wx ((hT4'.below h.b).mono (fun b hb => Nat.lt_of_lt_of_le hb h.b.size)) ((hT6.below h.b).mono (fun b hb => Nat.lt_of_lt_of_le hb h.b.size)) (by have := hsz.1.1; omega) (by have := hsz.1.2.1; omega) (fun i => by have := hsz.1.2.2.1 i; omega)).mono fun e w' ⟨he, hb⟩ => ⟨he, h.next hb⟩
      have cQ : Hid (∀ wx, RW8 w w6 w3.heap.size (.slice A3 BL.length c3) (.slice S3' TL.length d3) w5.heap.size (.slice A5 BL.length c5) (.slice S5 TL.length d5) wx → Calls Tryd.prog 18 #[p3, p5] wx fun e w' => e = .returned (.bool true) ∧ RW8 w w6 w3.heap.size (.slice A3 BL.length c3) (.slice S3' TL.length d3) w5.heap.size (.slice A5 BL.length c5) (.slice S5 TL.length d5) w') := hid fun wx h =>
        (sameProbs_any p3 p5 PS _ _ wx (S3.row_under hp4' h.b) (S3.row_under hp6 h.b) (by have := hsz.1.2.2.2; have := hsz.2; omega)).mono fun e w' ⟨he, q, hw⟩ => ⟨he, by rw [hw]; exact h.next (S3.below_drewN (Below.refl _ _) q)⟩
      have HW6 := hid hw6
      obtain ⟨P1, hP1⟩ : ∃ p, w3.heap.size = p := ⟨_, rfl⟩
      obtain ⟨P2, hP2⟩ : ∃ p, w5.heap.size = p := ⟨_, rfl⟩
      have HP1 := hid hP1
      have HP2 := hid hP2
      rw [hP1, hP2] at hk' cA cT cQ
      clear CA CP CR HB4 HT4 HX4 HP4 hb5 hb6 hx6 hs6 hb46 hT4' hT6 hT5 hw6 hP1 hP2 HSM HW4 hp4' hp6 hp5 hsz HKR HIN
      go_upto_region 8 with fail
      (try rw [HW6.out])
      (try rw [HP1.out])
      (try rw [HP2.out])
      go_wp2_with fail
      refine (cA.out _ hk').mono ?_
      rintro e w7 ⟨rfl, hk7⟩
      have HK7 := hid hk7
      clear hk7 hk'
      obtain ⟨x0, x1, y0, y1⟩ := HK7.out.cells
      go_wp2_with fail
      refine (cT.out _ HK7.out).mono ?_
      rintro e w8 ⟨rfl, hk8⟩
      have HK8 := hid hk8
      clear hk8 x0 x1 y0 y1
      go_wp2_with fail
      refine (cQ.out _ HK8.out).mono ?_
      rintro e w9 ⟨rfl, hk9⟩
      have HK9 := hid hk9
      clear hk9
      go_wp2
      go_ret
      exact ⟨rfl, HK9.out.g⟩
end Go.Proofs.YtocmbifljkcmeaaDoor

