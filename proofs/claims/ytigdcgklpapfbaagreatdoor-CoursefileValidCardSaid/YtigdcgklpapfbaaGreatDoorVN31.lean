/-
  Whether two classes are parallel: by the program, by the specification. No condition.
  The times of a class by the specification: Times. Conditions: the class lies in memory; there are at most 4096 times.
  The times of a class, if there are at most 4096 of them or the grid or the length is not right. Conditions: the class lies in memory.
  The walk of CoursefileValid, its mathematics: how many times a class has. Conditions: as the lemmas state.
  That the specification finds equal lists of times equal. Conditions: the lists lie in memory.
  What holds while entries are read out of records. Conditions: as stated.
-/
import Derived.Test.YtigdcgklpapfbaaGreatDoorVN01
import Derived.Test.YtigdcgklpapfbaaGreatDoorVN02
import Derived.Test.YtigdcgklpapfbaaGreatDoorVN03
import Derived.Test.YtigdcgklpapfbaaGreatDoorVN04
import Derived.Test.YtigdcgklpapfbaaGreatDoorVN05
import Derived.Test.YtigdcgklpapfbaaGreatDoorVN06
import Derived.Test.YtigdcgklpapfbaaGreatDoorVN07
import Derived.Test.YtigdcgklpapfbaaGreatDoorVN08
import Derived.Test.YtigdcgklpapfbaaGreatDoorVN09
import Derived.Test.YtigdcgklpapfbaaGreatDoorVN10
import Derived.Test.YtigdcgklpapfbaaGreatDoorVN11
import Derived.Test.YtigdcgklpapfbaaGreatDoorVN12
import Derived.Test.YtigdcgklpapfbaaGreatDoorVN13
import Derived.Test.YtigdcgklpapfbaaGreatDoorVN14
import Derived.Test.YtigdcgklpapfbaaGreatDoorVN15
import Derived.Test.YtigdcgklpapfbaaGreatDoorVN16
import Derived.Test.YtigdcgklpapfbaaGreatDoorVN17
import Derived.Test.YtigdcgklpapfbaaGreatDoorVN18
import Derived.Test.YtigdcgklpapfbaaGreatDoorVN19
import Derived.Test.YtigdcgklpapfbaaGreatDoorVN20
import Derived.Test.YtigdcgklpapfbaaGreatDoorVN21
import Derived.Test.YtigdcgklpapfbaaGreatDoorVN22
import Derived.Test.YtigdcgklpapfbaaGreatDoorVN23
import Derived.Test.YtigdcgklpapfbaaGreatDoorVN24
import Derived.Test.YtigdcgklpapfbaaGreatDoorVN25
import Derived.Test.YtigdcgklpapfbaaGreatDoorProg
import Derived.WalkKit
import Derived.WalkSpells
import Derived.WalkLawsBesides
import Derived.Lib.Hide
import Derived.Deep.QuietTactic
import Derived.BigQuiet
import Derived.Laws.Rows
import Derived.OwnWalk
import Derived.Lib.BufferWrite
import Derived.Lib.UnsafeStr
import Derived.Laws.IdiomStrings
import Derived.Laws.BytesArg
import Derived.Laws.BytesString
import Derived.Laws.OwnMore
import Derived.Lib.IndexLaws
import Derived.Lib.ItoaNum
import Derived.Lib.Atoi
import Derived.Laws.BitsAllLaws
import Derived.Laws.BitsLemmas
import Derived.Deep.MidRow
import Derived.Shelf.Strings.Builder1
import Derived.Shelf.Strings.Builder2
import Derived.Shelf.Strings.OnBuilder
import Derived.Shelf.Strings.Trim
import Derived.Shelf.Small.Bits
import Derived.Shelf.Small.Strs
import Derived.Shelf.Small.Wraps
import Derived.Shelf.Strings.BuilderF
import Derived.Shelf.Strings.BuilderK
import Derived.Shelf.Strings.Builder2Cap
import Derived.Shelf.Strconv.Atoi
import Derived.Shelf.Strconv.Itoa0
import Derived.Shelf.Strconv.Itoa1
import Derived.Shelf.LaysM
import Derived.Shelf.Strconv.Itoa2
import Derived.Shelf.Strconv.Itoa3
import Derived.Shelf.Strconv.AtoiErrFast
import Derived.Shelf.Strconv.ParseIntEmpty
import Derived.Shelf.Strconv.AtoiFail
import Derived.Shelf.Strconv.Clone
import Derived.Shelf.Strconv.SyntaxError
import Derived.Shelf.LaysC
import Derived.Shelf.Strconv.ToError
import Derived.Shelf.Strconv.AtoiErr
import Derived.Shelf.Strings.Search1
import Derived.Shelf.Strings.Search2
import Derived.Shelf.Strings.Search3
import Derived.Shelf.Strings.Cut
import Derived.Shelf.Strings.Shaped
import Derived.Shelf.Strings.Prefix
import Derived.Shelf.Strings.Runes
import Derived.Shelf.Strings.AsciiSet
import Derived.Shelf.Bits.Mul64
import Derived.Shelf.Strings.Repeat
import Derived.Shelf.Unicode.DecodeSlow
import Derived.Shelf.Strings.BuilderCap
import Derived.Shelf.Slices.Turned
import Derived.Ground.SlgfProg
import Derived.Shelf.SlicesE.IndexFunc
import Derived.Lib.AtoiErrMem
import Derived.Handy
import Derived.RangeFuncNested
import Derived.RangeFuncBound
import Derived.RangeFuncCalls
import Derived.RangeFuncLeaves
import Derived.Shelf.Abstract
import Derived.Shelf.RegionOpen
import Derived.OwnWalkIn
import Derived.Lib.Bytealg
import Derived.Lib.SlTrimSet
import Derived.Shelf.Strings.SlTrimAscii
import Derived.Laws.ResultCell
import Derived.RegionTactic
import Derived.Lib.Repeat
import Derived.Deep.RegionHeld3
import Derived.Lib.SlicesS
import Derived.TacticsInMore
import Derived.LoopNIn
import Derived.LoopIn
import Derived.Deep.DeepCutAuto
import Derived.Lib.Join
import Derived.Laws.Concat
import Derived.Maps.OwnSet
import Derived.Maps.Range
import Derived.Sort.EncStr
import Derived.Deep.RegionLaw
import Derived.Sort.Grow
import Derived.Shelf.SlGeneric
import Derived.Shelf.SlSortCmp.NoneTotal
import Derived.Ground.SlsfProg
import Derived.Sort.OwnSorted
import Derived.RangeFuncBox
import Derived.Sort.Walk0
import Derived.Lib.AppendIntMem
import Derived.Lib.QuietBelow
import Derived.WalkMore
import Derived.StillTailTactics
import Derived.Deep.AppendLies
set_option linter.unusedVariables false
namespace Go.Proofs.YtigdcgklpapfbaaGreatDoor.S10
open Go Go.Proofs Go.RowKit Go.Lib Go.Proofs.YtigdcgklpapfbaaGreatDoor

def parB (a b : ClassD) : Bool := decide (a.course = b.course ∧ a.part = b.part)
theorem two_boxes (w : World) (a b : Array Value) :
    BoxC ((w.alloc (.cells a 33)).alloc (.cells b 33)) w.heap.size a ∧ BoxC ((w.alloc (.cells a 33)).alloc (.cells b 33)) (w.heap.size + 1) b ∧ Below w.heap.size w ((w.alloc (.cells a 33)).alloc (.cells b 33)) := by
  have hs : (w.alloc (.cells a 33)).heap.size = w.heap.size + 1 := by simp
  have h1 := BoxC.new w a
  have hb1 := (Below.refl w.heap.size w).alloc (Nat.le_refl _) (.cells a 33)
  generalize w.alloc (.cells a 33) = w1 at hs h1 hb1 ⊢
  have h2 := BoxC.new w1 b
  have hb2 := (Below.refl w1.heap.size w1).alloc (Nat.le_refl _) (.cells b 33)
  rw [hs] at h2
  exact ⟨h1.next hb2, h2, hb1.trans (hb2.mono (by omega))⟩
theorem beq_str (s t : Str) : ((ba s).toList == (ba t).toList) = decide (s = t) := by
  rw [Lib.toList_data, Lib.toList_data]
  show (s == t) = _
  rw [Bool.eq_iff_iff]; simp

set_option maxHeartbeats 4000000 in
set_option maxRecDepth 100000 in
theorem par_any (x x' : ClassD) (q q' : ClassA) (w : World) : Calls Tryz.prog 13 #[clsV x q, clsV x' q'] w (Says (.bool (parB x x')) w) := by
  obtain ⟨c0, c1, c2, len, pats, seats, feats, staff, starts⟩ := x
  obtain ⟨d0, d1, d2, len', pats', seats', feats', staff', starts'⟩ := x'
  unfold Says clsV parB
  dsimp only
  have e1 := beq_str c1 d1
  have e2 := beq_str c2 d2
  obtain ⟨U, hU⟩ : ∃ U, decide (c1 = d1) = U := ⟨_, rfl⟩
  obtain ⟨V, hV⟩ : ∃ V, decide (c2 = d2) = V := ⟨_, rfl⟩
  have hR : decide (c1 = d1 ∧ c2 = d2) = (U && V) := by rw [← hU, ← hV, Bool.decide_and]
  rw [hR]
  rw [hU] at e1
  rw [hV] at e2
  obtain ⟨h1, h2, hb⟩ := two_boxes w (clsArr ⟨c0, c1, c2, len, pats, seats, feats, staff, starts⟩ q) (clsArr ⟨d0, d1, d2, len', pats', seats', feats', staff', starts'⟩ q')
  unfold clsArr at h1 h2 hb
  dsimp only at h1 h2 hb
  obtain ⟨X1, hX1⟩ : ∃ X, ba c1 = X := ⟨_, rfl⟩
  obtain ⟨X2, hX2⟩ : ∃ X, ba c2 = X := ⟨_, rfl⟩
  obtain ⟨Y1, hY1⟩ : ∃ X, ba d1 = X := ⟨_, rfl⟩
  obtain ⟨Y2, hY2⟩ : ∃ X, ba d2 = X := ⟨_, rfl⟩
  rw [hX1, hY1] at e1
  rw [hX2, hY2] at e2
  rw [hX1, hX2] at h1 hb ⊢
  rw [hY1, hY2] at h2 hb ⊢
  obtain ⟨x0, x1, x2, x3, x4, x5, x6, x7, x8⟩ := h1.cells
  obtain ⟨y0, y1, y2, y3, y4, y5, y6, y7, y8⟩ := h2.cells
  have HB := hid hb
  clear hb h1 h2 hX1 hX2 hY1 hY2 hR hU hV
  cases U with
  | false =>
    go_enter Tryz.func13, Tryz.ntmps13
    go_wp2
    go_ret
    exact ⟨rfl, HB.out⟩
  | true =>
    go_enter Tryz.func13, Tryz.ntmps13
    go_wp2
    go_ret
    exact ⟨by first | rfl | (cases V <;> rfl), HB.out⟩

set_option maxHeartbeats 4000000 in
set_option maxRecDepth 100000 in
theorem rpar_any (x x' : ClassD) (q q' : ClassA) (w : World) : Calls Tryz.prog 14 #[clsV x q, clsV x' q'] w (Says (.bool (parB x x')) w) := by
  obtain ⟨c0, c1, c2, len, pats, seats, feats, staff, starts⟩ := x
  obtain ⟨d0, d1, d2, len', pats', seats', feats', staff', starts'⟩ := x'
  unfold Says clsV parB
  dsimp only
  have e1 := beq_str c1 d1
  have e2 := beq_str c2 d2
  obtain ⟨U, hU⟩ : ∃ U, decide (c1 = d1) = U := ⟨_, rfl⟩
  obtain ⟨V, hV⟩ : ∃ V, decide (c2 = d2) = V := ⟨_, rfl⟩
  have hR : decide (c1 = d1 ∧ c2 = d2) = (U && V) := by rw [← hU, ← hV, Bool.decide_and]
  rw [hR]
  rw [hU] at e1
  rw [hV] at e2
  obtain ⟨h1, h2, hb⟩ := two_boxes w (clsArr ⟨c0, c1, c2, len, pats, seats, feats, staff, starts⟩ q) (clsArr ⟨d0, d1, d2, len', pats', seats', feats', staff', starts'⟩ q')
  unfold clsArr at h1 h2 hb
  dsimp only at h1 h2 hb
  obtain ⟨X1, hX1⟩ : ∃ X, ba c1 = X := ⟨_, rfl⟩
  obtain ⟨X2, hX2⟩ : ∃ X, ba c2 = X := ⟨_, rfl⟩
  obtain ⟨Y1, hY1⟩ : ∃ X, ba d1 = X := ⟨_, rfl⟩
  obtain ⟨Y2, hY2⟩ : ∃ X, ba d2 = X := ⟨_, rfl⟩
  rw [hX1, hY1] at e1
  rw [hX2, hY2] at e2
  rw [hX1, hX2] at h1 hb ⊢
  rw [hY1, hY2] at h2 hb ⊢
  obtain ⟨x0, x1, x2, x3, x4, x5, x6, x7, x8⟩ := h1.cells
  obtain ⟨y0, y1, y2, y3, y4, y5, y6, y7, y8⟩ := h2.cells
  have HB := hid hb
  clear hb h1 h2 hX1 hX2 hY1 hY2 hR hU hV
  cases U with
  | false =>
    go_enter Tryz.func14, Tryz.ntmps14
    go_wp2
    go_ret
    exact ⟨rfl, HB.out⟩
  | true =>
    go_enter Tryz.func14, Tryz.ntmps14
    go_wp2
    go_ret
    exact ⟨by first | rfl | (cases V <;> rfl), HB.out⟩
end Go.Proofs.YtigdcgklpapfbaaGreatDoor.S10

set_option linter.unusedVariables false
namespace Go.Proofs.YtigdcgklpapfbaaGreatDoor.S10
open Go Go.Proofs Go.RowKit Go.Lib Go.Proofs.YtigdcgklpapfbaaGreatDoor

set_option maxHeartbeats 16000000 in
set_option maxRecDepth 100000 in
theorem rtimes_all (d s b m : Int) (x : ClassD) (q : ClassA) (w : World) (hin : ClassIn w (fun k => k < w.heap.size) x q) (htot : gridB d s b m = true → 1 ≤ x.len ∧ x.len ≤ s → x.pats.length * (startsOf d s x).length ≤ 4096) :
    Calls Tryz.prog 12 #[clsV x q, .agg #[.int .i64 d, .int .i64 s, .int .i64 b, .int .i64 m]] w fun e w' => (∃ v, e = .returned v ∧ TimeRow w' w.heap.size v (timesC d s b m x)) ∧ Below w.heap.size w w' := by
  obtain ⟨aP, cP, aF, cF, aS, cS, aT, cT⟩ := q
  obtain ⟨i9, hi9, hz9, hsi9, hby9⟩ := info_parts infoTime
  obtain ⟨iS, hiS, hzS, hsiS, hbyS⟩ := info_parts infoStart
  unfold clsV timesC
  have hk := KT.first w (clsArr x ⟨aP, cP, aF, cF, aS, cS, aT, cT⟩) d s b m
  have hz1 : ((w.alloc (.cells (clsArr x ⟨aP, cP, aF, cF, aS, cS, aT, cT⟩) 33)).alloc (.cells #[.int .i64 d, .int .i64 s, .int .i64 b, .int .i64 m] 24)).heap.size = w.heap.size + 2 := by simp
  unfold clsArr at hk hz1
  dsimp only at hk hz1 ⊢
  have cG := fun w => rgvalid_any d s b m w
  unfold Says at cG
  have HK := hid hk
  have HZ1 := hid hz1
  have HP : Hid (NumsIn w (fun k => k < w.heap.size) aP x.pats ∧ x.pats.length ≤ cP ∧ cP ≤ 9223372036854775807) := hid ⟨hin.p, hin.p1, hin.p2⟩
  have HT : Hid (StartsIn w (fun k => k < w.heap.size) aT x.starts ∧ x.starts.length ≤ cT ∧ cT ≤ 9223372036854775807) := hid ⟨hin.t, hin.t1, hin.t2⟩
  clear hk hz1 hin
  obtain ⟨ST, hST⟩ : ∃ ST, startsOf d s x = ST := ⟨_, rfl⟩
  rw [hST] at htot ⊢
  have HST := hid hST
  clear hST
  cases hgr : gridB d s b m with
  | false =>
    rw [hgr] at cG
    have CG := hid cG
    clear cG hgr htot
    rw [if_neg (by simp)]
    go_enter Tryz.func12, Tryz.ntmps12
    go_upto_region 1 with fail
    generalize World.alloc _ _ = w1 at HK HZ1 ⊢
    obtain ⟨g0, g1, g2, g3, gl⟩ := HK.out.g
    obtain ⟨x0, x1, x2, x3, x4, x5, x6, x7, x8⟩ := BoxC.cells HK.out.x
    go_wp2_with fail
    refine (CG.out _).mono ?_
    rintro e w2 ⟨rfl, hb⟩
    have HB := hid (HK.out.next hb).b
    clear hb x0 x1 x2 x3 x4 x5 x6 x7 x8 g0 g1 g2 g3 gl
    go_wp2
    go_ret
    exact ⟨⟨_, rfl, World.ownsRow_nil _ _ _ _⟩, HB.out⟩
  | true =>
    rw [hgr] at cG
    have hgp := grid_of hgr
    have CG := hid cG
    replace htot := htot hgr
    clear cG hgr
    by_cases hl : 1 ≤ x.len ∧ x.len ≤ s
    · rw [if_pos ⟨rfl, hl.1, hl.2⟩]
      replace htot := htot hl
      have l0 : decide (x.len < 1) = false := decide_eq_false (by omega)
      have l1 : decide (s < x.len) = false := decide_eq_false (by omega)
      have q1 : IntKind.i64.wrap (s - x.len) = s - x.len := IntWalk.i64_in _ (by have := hgp.2.1; omega)
      have hK24 : s - x.len + 1 ≤ 24 ∧ 1 ≤ s - x.len + 1 := by have := hgp.2.1; omega
      have HD7 := hid hgp.1
      obtain ⟨LN, hLN⟩ : ∃ LN, x.len = LN := ⟨_, rfl⟩
      have HLN := hid hLN
      rw [hLN] at l0 l1 q1 hK24 HK HZ1 ⊢
      have HK24 := hid hK24
      obtain ⟨PN, hPN⟩ : ∃ PN, x.pats.length = PN := ⟨_, rfl⟩
      obtain ⟨TN, hTN⟩ : ∃ TN, x.starts.length = TN := ⟨_, rfl⟩
      have HPN := hid hPN
      have HTN := hid hTN
      rw [hPN] at htot HK HZ1 ⊢
      rw [hTN] at HK HZ1 ⊢
      clear hLN hPN hTN hl hgp hK24
      obtain ⟨M, hM⟩ : ∃ M, ST.length = M := ⟨_, rfl⟩
      rw [hM] at htot
      have HM := hid hM
      clear hM
      go_enter Tryz.func12, Tryz.ntmps12
      go_upto_region 1 with fail
      generalize World.alloc _ _ = w1 at HK HZ1 ⊢
      obtain ⟨g0, g1, g2, g3, gl⟩ := HK.out.g
      obtain ⟨x0, x1, x2, x3, x4, x5, x6, x7, x8⟩ := BoxC.cells HK.out.x
      go_wp2_with fail
      refine (CG.out _).mono ?_
      rintro e w2 ⟨rfl, hb⟩
      have hk2 := HK.out.next hb
      obtain ⟨x0', x1', x2', x3', x4', x5', x6', x7', x8'⟩ := BoxC.cells hk2.x
      obtain ⟨g0', g1', g2', g3', gl'⟩ := hk2.g
      have HK2 := hid hk2
      clear hb hk2 x0 x1 x2 x3 x4 x5 x6 x7 x8 g0 g1 g2 g3 gl
      have HK3 := HK2
      go_upto_if 30 with fail
      go_cut [5] (fun v wz => ∃ A c, v = .slice A M c ∧ Hid (StartsIn wz (fun k => k < wz.heap.size) A ST) ∧ Hid (M ≤ c ∧ c ≤ 9223372036854775807) ∧ Hid (KT w #[.string (ba x.code), .string (ba x.course), .string (ba x.part), .int .i64 LN, .slice aP PN cP, .int .i64 x.seats, .slice aF x.feats.length cF, .slice aS x.staff.length cS, .slice aT TN cT] d s b m wz))
      case first =>
        by_cases h0 : x.starts = []
        · have hTN0 : ((TN : Int) == 0) = true := by rw [← HTN.out, h0]; rfl
          have HCS : Hid (w.heap.size + 2 ≤ w2.heap.size) := hid HK3.out.g.lt
          have hSe : Hid (allS d s LN = ST) := hid (by rw [← HST.out]; unfold startsOf; rw [if_pos h0, HLN.out])
          have hDz : d = ((d.toNat : Nat) : Int) := by have := HD7.out; omega
          have hKz : s - LN + 1 = (((s - LN + 1).toNat : Nat) : Int) := by have := HK24.out; omega
          obtain ⟨D, hD⟩ : ∃ D : Nat, d.toNat = D := ⟨_, rfl⟩
          obtain ⟨K, hKK⟩ : ∃ K : Nat, (s - LN + 1).toNat = K := ⟨_, rfl⟩
          have hSe2 : Hid (allN D K = ST) := hid (by rw [← hSe.out, ← hD, ← hKK]; rfl)
          rw [hD] at hDz
          rw [hKK] at hKz
          have HDZ := hid hDz
          have hD7 : D ≤ 7 := by have := HD7.out; omega
          have hK24 : K ≤ 24 := by have := HK24.out; omega
          have HKZ := hid hKz
          clear h0 hD hKK hDz hKz
          go_wp2
          rw [hTN0]
          clear x0' x1' x2' x3' x4' x5' x6' x7' x8' g0' g1' g2' g3' gl' hTN0
          go_loopw [5, 6, 7] (fun v iv _ wr => ∃ (i n : Nat) (A : Option Addr) (c : Nat), v = .slice A n c ∧ iv = .int .i64 (i : Int) ∧ i ≤ D ∧ Hid (n = i * K) ∧ Hid (wr.ownsRow w2.heap.size 74 2 (.slice A n c) n (startVals (allN i K))) ∧ Hid (KT w #[.string (ba x.code), .string (ba x.course), .string (ba x.part), .int .i64 LN, .slice aP PN cP, .int .i64 x.seats, .slice aF x.feats.length cF, .slice aS x.staff.length cS, .slice aT TN cT] d s b m wr) ∧ Hid (Below w2.heap.size w2 wr)) (fun _ iv _ _ => D - (RowKit.intOf iv).toNat)
          case atStart => exact ⟨0, 0, none, 0, rfl, rfl, Nat.zero_le _, hid (by simp), hid (by rw [show allN 0 K = [] by simp [allN]]; exact World.ownsRow_nil _ _ _ _), HK3, hid (Below.refl _ _)⟩
          case round =>
            obtain ⟨i, n, A, c, rfl, rfl, hi, hn, hrow, hK4, hBw⟩ := hrel
            obtain ⟨y0, y1, y2, y3, y4, y5, y6, y7, y8⟩ := BoxC.cells hK4.out.x
            obtain ⟨g0, g1, g2, g3, gl⟩ := hK4.out.g
            by_cases hlt : i < D
            · have hltz : (i : Int) < d := by have := HDZ.out; omega
              go_wp2
              clear y0 y1 y2 y3 y4 y5 y6 y7 y8 g0 g1 g2 g3 gl
              go_loopw [5, 7] (fun v jv wr => ∃ (j n : Nat) (A : Option Addr) (c : Nat), v = .slice A n c ∧ jv = .int .i64 (j : Int) ∧ j ≤ K ∧ Hid (n = i * K + j) ∧ Hid (wr.ownsRow w2.heap.size 74 2 (.slice A n c) n (startVals (allN i K ++ dayStarts i j))) ∧ Hid (KT w #[.string (ba x.code), .string (ba x.course), .string (ba x.part), .int .i64 LN, .slice aP PN cP, .int .i64 x.seats, .slice aF x.feats.length cF, .slice aS x.staff.length cS, .slice aT TN cT] d s b m wr) ∧ Hid (Below w2.heap.size w2 wr)) (fun _ jv _ => K - (RowKit.intOf jv).toNat)
              case atStart => exact ⟨0, n, A, c, rfl, rfl, Nat.zero_le _, hid (by have := hn.out; omega), hid (by rw [show dayStarts i 0 = [] by simp [dayStarts], List.append_nil]; exact hrow.out), hK4, hBw⟩
              case round =>
                obtain ⟨j, n2, A2, c2, rfl, rfl, hj, hn2, hrow2, hK5, hB2⟩ := hrel
                obtain ⟨y0, y1, y2, y3, y4, y5, y6, y7, y8⟩ := BoxC.cells hK5.out.x
                obtain ⟨g0, g1, g2, g3, gl⟩ := hK5.out.g
                by_cases hltj : j < K
                · have hltjz : (j : Int) ≤ s - LN := by have := HKZ.out; omega
                  have hn2b : n2 ≤ 200 := by
                    have := Nat.mul_le_mul (show i ≤ 7 by omega) hK24
                    have := hn2.out
                    omega
                  have HMX : Hid (n2 + 1 ≤ maxLen) := hid (by unfold maxLen; omega)
                  have HBY : Hid ((n2 + 1) * 16 ≤ 140737488355328) := hid (by omega)
                  have HSZ : Hid (∀ o : Obj, w2.heap.size ≤ (wr.alloc o).heap.size) := hid (fun o => by have := hB2.out.size; simp; omega)
                  go_wp2_with (at_builtin; refine wpList_append_own _ rfl _ _ 31 rfl w2.heap.size 74 iS (.agg #[.int .i64 0, .int .i64 0]) 2 16 Tryz.underlying31 hiS hzS hsiS hbyS rfl (by decide) _ n2 (startVals (allN i K ++ dayStarts i j)) rfl (World.ownsRow.alloc hrow2.out _) ⟨wr.heap.size, 0, none⟩ 1 1 (startVals [((i : Int), (j : Int))]) rfl rfl (start_new _ _ _) (start_one1 _ _) HMX.out HBY.out (HSZ.out _) ?_)
                  intro v' w4 hown' hgrow _
                  have hg' := grownBy_of_alloc hgrow
                  obtain ⟨g', cap', rfl⟩ := ownsRow_succ (k := n2) hown'
                  have HOwn := hid hown'
                  have hrl : ∀ k, (Value.slice A2 n2 c2).ownBlock = some k → w2.heap.size ≤ k := fun k hk => (World.ownsRow.lt hrow2.out k hk).1
                  have HK8 := hid (hK5.out.row HCS.out hg' hrl)
                  have HB8 : Hid (Below w2.heap.size w2 w4) := hid (hB2.out.grown hg' hB2.out.size hrl)
                  clear hg' hgrow hown' hrl y0 y1 y2 y3 y4 y5 y6 y7 y8 g0 g1 g2 g3 gl
                  go_wp2_with fail
                  go_roundw
                  case rel =>
                    refine ⟨j + 1, n2 + 1, _, _, rfl, by go_num, by omega, hid (by have := hn2.out; omega), hid ?_, HK8, HB8⟩
                    rw [dayStarts_succ, ← List.append_assoc, startVals_app]
                    exact HOwn.out
                  case measure => simp [RowKit.intOf]; omega
                · have hltjz : ¬ (j : Int) ≤ s - LN := by have := HKZ.out; omega
                  have hjK : j = K := by omega
                  have HR3 : Hid (wr.ownsRow w2.heap.size 74 2 (.slice A2 n2 c2) n2 (startVals (allN (i + 1) K))) := hid (by rw [allN_succ]; have := hrow2.out; rw [hjK] at this; exact this)
                  have HN3 : Hid (n2 = (i + 1) * K) := hid (by have := hn2.out; rw [hjK] at this; rw [Nat.succ_mul]; exact this)
                  clear hjK
                  go_wp2
                  go_roundw
                  case rel => exact ⟨i + 1, n2, A2, c2, rfl, by go_num, by omega, HN3, HR3, hK5, hB2⟩
                  case measure => simp [RowKit.intOf]; omega
            · have hltz : ¬ (i : Int) < d := by have := HDZ.out; omega
              have hiD : i = D := by omega
              have h1 := hrow.out
              have h2 := hn.out
              rw [hiD, hSe2.out] at h1
              rw [hiD, ← allN_len D K, hSe2.out, HM.out] at h2
              subst h2
              obtain ⟨A', c', hv', hc1, hc2, hin⟩ := FlatIn.ofRow h1 (by rw [startVals_len, HM.out])
              obtain ⟨rfl, rfl⟩ : A = A' ∧ c = c' := by injection hv' with e1 _ e3; exact ⟨e1, e3⟩
              have HIN2 := hid (FlatIn.mono hin (fun k hk => hk.2))
              have HC2 := hid (And.intro hc1 hc2)
              clear h1 hin hv' hc1 hc2 hiD
              go_wp2
              go_meet
              exact ⟨A, c, rfl, HIN2, HC2, hK4⟩
        · have hTN0 : ((TN : Int) == 0) = false := by
            have : TN ≠ 0 := fun e => h0 (List.eq_nil_of_length_eq_zero (by rw [HTN.out]; exact e))
            simpa using this
          have hSe : Hid (x.starts = ST) := hid (by rw [← HST.out]; unfold startsOf; rw [if_neg h0])
          have hTM : TN = M := by rw [← HTN.out, hSe.out, HM.out]
          have HIN2 : Hid (StartsIn w2 (fun k => k < w2.heap.size) aT ST) := hid (by
            rw [← hSe.out]
            exact (HT.out.1.kept (fun b hb => HK3.out.b.block b hb)).mono (fun b hb => Nat.lt_of_lt_of_le hb HK3.out.b.size))
          have HCC : Hid (M ≤ cT ∧ cT ≤ 9223372036854775807) := hid (by rw [← hTM, ← HTN.out]; exact HT.out.2)
          have HTM := hid hTM
          clear h0 hSe hTM
          go_wp2_with fail
          go_meet
          exact ⟨aT, cT, by rw [HTM.out], HIN2, HCC, HK3⟩
      case rest =>
        obtain ⟨A, c, rfl, hSt, hCc, hKc⟩ := hcut
        have HCS : Hid (w.heap.size + 2 ≤ wc.heap.size) := hid hKc.out.g.lt
        go_wp2
        have hPm : PN ≤ 9223372036854775807 := by rw [← HPN.out]; exact Nat.le_trans HP.out.2.1 HP.out.2.2
        have hMm : M ≤ 9223372036854775807 := Nat.le_trans hCc.out.1 hCc.out.2
        go_loopw [8, 9, 10] (fun v iv _ wr => ∃ (i n : Nat) (B : Option Addr) (e : Nat), v = .slice B n e ∧ iv = .int .i64 (i : Int) ∧ i ≤ PN ∧ Hid (n = i * M) ∧ Hid (wr.ownsRow wc.heap.size 66 4 (.slice B n e) n (timeVals ((x.pats.take i).flatMap fun k => timesOf k LN ST))) ∧ Hid (KT w #[.string (ba x.code), .string (ba x.course), .string (ba x.part), .int .i64 LN, .slice aP PN cP, .int .i64 x.seats, .slice aF x.feats.length cF, .slice aS x.staff.length cS, .slice aT TN cT] d s b m wr) ∧ Hid (Below wc.heap.size wc wr)) (fun _ iv _ _ => PN - (RowKit.intOf iv).toNat)
        case atStart => exact ⟨0, 0, none, 0, rfl, rfl, Nat.zero_le _, hid (by simp), hid (by simp only [List.take_zero, List.flatMap_nil]; exact World.ownsRow_nil _ _ _ _), hKc, hid (Below.refl _ _)⟩
        case round =>
          obtain ⟨i, n, B, e, rfl, rfl, hi, hn, hrow, hK4, hB4⟩ := hrel
          obtain ⟨y0, y1, y2, y3, y4, y5, y6, y7, y8⟩ := BoxC.cells hK4.out.x
          obtain ⟨g0, g1, g2, g3, gl⟩ := hK4.out.g
          by_cases hlt : i < PN
          · have hltz : (i : Int) < (PN : Int) := by omega
            have hlt' : i < x.pats.length := by rw [HPN.out]; exact hlt
            obtain ⟨pb, po, rfl, hpb, hpc⟩ := (HP.out.1.kept (fun b hb => hK4.out.b.block b hb)).num hlt'
            have hfl := flat_succ x.pats (fun k => timesOf k LN ST) i hlt'
            obtain ⟨K, hKe⟩ : ∃ K, x.pats[i] = K := ⟨_, rfl⟩
            rw [hKe] at hpc hfl
            have HFL := hid hfl
            have hnM : n + M ≤ 4096 := by
              have h1 := Nat.mul_le_mul_right M (show i + 1 ≤ PN from hlt)
              rw [Nat.succ_mul] at h1
              have := hn.out
              omega
            have hq : IntKind.i64.wrap ((n : Int) + (M : Int)) = (n : Int) + (M : Int) := IntWalk.i64_in _ (by omega)
            have hq2 : ¬ (4096 : Int) < (n : Int) + (M : Int) := by omega
            have hq3 : decide ((4096 : Int) < (n : Int) + (M : Int)) = false := decide_eq_false hq2
            have HPC : Hid (∀ W, KT w #[.string (ba x.code), .string (ba x.course), .string (ba x.part), .int .i64 LN, .slice (some ⟨pb, po, none⟩) PN cP, .int .i64 x.seats, .slice aF x.feats.length cF, .slice aS x.staff.length cS, .slice aT TN cT] d s b m W → W.cell? ⟨pb, po + i, none⟩ = some (.int .i64 K)) := hid (fun W h => (World.cell?_of_block (w := wr) ((h.b.block pb hpb).trans (hK4.out.b.block pb hpb).symm)).trans hpc)
            clear hKe hfl hlt' hpb
            go_wp2
            clear hpc y0 y1 y2 y3 y4 y5 y6 y7 y8 g0 g1 g2 g3 gl
            go_loopw [8, 10] (fun v jv wr => ∃ (j n : Nat) (B : Option Addr) (e : Nat), v = .slice B n e ∧ jv = .int .i64 (j : Int) ∧ j ≤ M ∧ Hid (n = i * M + j) ∧ Hid (wr.ownsRow wc.heap.size 66 4 (.slice B n e) n (timeVals ((x.pats.take i).flatMap (fun k => timesOf k LN ST) ++ timesOf K LN (ST.take j)))) ∧ Hid (KT w #[.string (ba x.code), .string (ba x.course), .string (ba x.part), .int .i64 LN, .slice (some ⟨pb, po, none⟩) PN cP, .int .i64 x.seats, .slice aF x.feats.length cF, .slice aS x.staff.length cS, .slice aT TN cT] d s b m wr) ∧ Hid (Below wc.heap.size wc wr)) (fun _ jv _ => M - (RowKit.intOf jv).toNat)
            case atStart => exact ⟨0, n, B, e, rfl, rfl, Nat.zero_le _, hid (by have := hn.out; omega), hid (by rw [List.take_zero, show timesOf K LN [] = [] from rfl, List.append_nil]; exact hrow.out), hK4, hB4⟩
            case round =>
              obtain ⟨j, n2, B2, e2, rfl, rfl, hj, hn2, hrow2, hK5, hB5⟩ := hrel
              by_cases hltj : j < M
              · have hltjz : (j : Int) < (M : Int) := by omega
                have hn4 : n2 < 4096 := by
                  have h1 := Nat.mul_le_mul_right M (show i + 1 ≤ PN from hlt)
                  rw [Nat.succ_mul] at h1
                  have := hn2.out
                  omega
                have hltj' : j < ST.length := by rw [HM.out]; exact hltj
                have hSr : StartsIn wr (fun k => k < wc.heap.size) A ST := hSt.out.kept (fun b hb => hB5.out.block b hb)
                obtain ⟨sb, so, rfl, hsb, s0, s1⟩ := hSr.start hltj'
                have hts := timesOf_succ K LN ST j hltj'
                obtain ⟨⟨y, u⟩, hyt⟩ : ∃ p, ST[j] = p := ⟨_, rfl⟩
                rw [hyt] at s0 s1 hts
                dsimp only at s0 s1 hts
                have HTS := hid hts
                clear hSr hltj' hyt hts
                have hpcr := HPC.out wr hK5.out
                obtain ⟨_, _, _, x3, x4, _⟩ := BoxC.cells hK5.out.x
                have HR7 := hid (row_under hrow2.out (Below.refl wr.heap.size wr).drew)
                have HM5 : Hid (n2 + 1 ≤ maxLen) := hid (by unfold maxLen; omega)
                have HBY : Hid ((n2 + 1) * 32 ≤ 140737488355328) := hid (by omega)
                have HKD := hid (hK5.out.next (Below.refl wr.heap.size wr).drew)
                have HB7 := hid (hB5.out.trans ((Below.refl wr.heap.size wr).drew.mono hB5.out.size))
                have HSZ : Hid (∀ o : Obj, wc.heap.size ≤ (wr.drew.alloc o).heap.size) := hid (fun o => by have := HB7.out.size; simp at this ⊢; omega)
                have ALL : Hid (∀ W, KT w #[.string (ba x.code), .string (ba x.course), .string (ba x.part), .int .i64 LN, .slice (some ⟨pb, po, none⟩) PN cP, .int .i64 x.seats, .slice aF x.feats.length cF, .slice aS x.staff.length cS, .slice aT TN cT] d s b m W → Below wc.heap.size wc W → W.cell? ⟨w.heap.size, 3, none⟩ = some (.int .i64 LN) ∧ W.cell? ⟨w.heap.size, 4, none⟩ = some (.slice (some ⟨pb, po, none⟩) PN cP) ∧ W.cell? ⟨pb, po + i, none⟩ = some (.int .i64 K) ∧ W.cell? ⟨sb, so + j * 2, none⟩ = some (.int .i64 y) ∧ W.cell? ⟨sb, so + j * 2 + 1, none⟩ = some (.int .i64 u)) := hid (fun W h hb =>
                  ⟨(BoxC.cells h.x).2.2.2.1, (BoxC.cells h.x).2.2.2.2.1, HPC.out W h, ((hb.cell (p := ⟨sb, so + j * 2, none⟩) hsb).trans (hB5.out.cell (p := ⟨sb, so + j * 2, none⟩) hsb).symm).trans s0, ((hb.cell (p := ⟨sb, so + j * 2 + 1, none⟩) hsb).trans (hB5.out.cell (p := ⟨sb, so + j * 2 + 1, none⟩) hsb).symm).trans s1⟩)
                clear hsb hpcr x3 x4 s0 s1
                go_upto_region 22 with fail
                go_region_held3 (fun W => W.cell? ⟨w.heap.size, 3, none⟩ = some (.int .i64 LN) ∧ W.cell? ⟨w.heap.size, 4, none⟩ = some (.slice (some ⟨pb, po, none⟩) PN cP) ∧ W.cell? ⟨pb, po + i, none⟩ = some (.int .i64 K) ∧ W.cell? ⟨sb, so + j * 2, none⟩ = some (.int .i64 y) ∧ W.cell? ⟨sb, so + j * 2 + 1, none⟩ = some (.int .i64 u))
                  (first | with_reducible exact ALL.out _ HKD.out HB7.out | exact ALL.out _ (HKD.out.next ((Below.refl _ _).alloc (Nat.le_refl _) _)) (HB7.out.trans (((Below.refl _ _).alloc (Nat.le_refl _) _).mono HB7.out.size)) | exact ALL.out _ HK8.out HB8.out)
                  (first
                    | (refine step_append_own rfl (.tmp 71) (.tmp 90) 35 rfl wc.heap.size 66 i9 (.agg #[.int .i64 0, .int .i64 0, .int .i64 0, .int .i64 0]) 4 32 Tryz.underlying35 hi9 hz9 hsi9 hby9 rfl (by decide) (.slice B2 n2 e2) n2 (timeVals ((x.pats.take i).flatMap (fun k => timesOf k LN ST) ++ timesOf K LN (ST.take j))) (by simp [Act.eval]) (World.ownsRow.alloc HR7.out _) ⟨wr.drew.heap.size, 0, none⟩ 1 1 (timeVs (K, y, u, LN)) (by simp [Act.eval]) rfl (four_new wr.drew K y u LN 66) (times_one _) HM5.out HBY.out (HSZ.out _) ?_
                       intro v' w8 hown' hgrow
                       have hg' : wr.drew.grownBy w8 (Value.slice B2 n2 e2).ownBlock := grownBy_of_alloc (show (wr.drew.alloc (.cells #[.int .i64 K, .int .i64 y, .int .i64 u, .int .i64 LN] 66)).grownBy w8 (Value.slice B2 n2 e2).ownBlock from hgrow)
                       obtain ⟨g', cap', rfl⟩ := ownsRow_succ (k := n2) hown'
                       have HOwn := hid hown'
                       have hrl : ∀ k, (Value.slice B2 n2 e2).ownBlock = some k → wc.heap.size ≤ k := fun k hk => (World.ownsRow.lt HR7.out k hk).1
                       have HK8 := hid (HKD.out.row HCS.out hg' hrl)
                       have HB8 : Hid (Below wc.heap.size wc w8) := hid (HB7.out.grown hg' HB7.out.size hrl)
                       clear hg' hgrow hown' hrl))
                go_wp2
                go_roundw
                case rel =>
                  refine ⟨j + 1, n2 + 1, _, _, rfl, by go_num, by omega, hid (by have := hn2.out; omega), hid ?_, HK8, HB8⟩
                  rw [HTS.out, ← List.append_assoc, timeVals_app]
                  simpa [timeVals] using HOwn.out
                case measure => simp [RowKit.intOf]; omega
              · have hltjz : ¬ (j : Int) < (M : Int) := by omega
                have hjM : j = M := by omega
                have HR3 : Hid (wr.ownsRow wc.heap.size 66 4 (.slice B2 n2 e2) n2 (timeVals ((x.pats.take (i + 1)).flatMap fun k => timesOf k LN ST))) := hid (by
                  have h := hrow2.out
                  rw [show ST.take j = ST from List.take_of_length_le (by rw [HM.out]; omega), ← HFL.out] at h
                  exact h)
                have HN3 : Hid (n2 = (i + 1) * M) := hid (by have := hn2.out; rw [hjM] at this; rw [Nat.succ_mul]; exact this)
                clear hjM
                go_wp2
                go_roundw
                case rel => exact ⟨i + 1, n2, B2, e2, rfl, by go_num, by omega, HN3, HR3, hK5, hB5⟩
                case measure => simp [RowKit.intOf]; omega
          · have hltz : ¬ (i : Int) < (PN : Int) := by omega
            have HRF : Hid (TimeRow wr w.heap.size (.slice B n e) (x.pats.flatMap fun k => timesOf k LN ST)) := hid (by
              have h := hrow.out
              rw [show x.pats.take i = x.pats from List.take_of_length_le (by rw [HPN.out]; omega)] at h
              have hl : n = (x.pats.flatMap fun k => timesOf k LN ST).length := by
                have := hn.out
                have hi2 : i = PN := by omega
                rw [hi2] at this
                rw [this, ← HPN.out, List.length_flatMap]
                simp only [timesOf, List.length_map, HM.out]
                exact (sum_const M x.pats).symm
              unfold TimeRow
              rw [← hl]
              exact rowLow h (by have := HCS.out; omega))
            go_wp2
            go_ret
            exact ⟨⟨_, rfl, HRF.out⟩, hK4.out.b⟩
    · rw [if_neg (fun h => hl ⟨h.2.1, h.2.2⟩)]
      obtain ⟨LN, hLN⟩ : ∃ LN, x.len = LN := ⟨_, rfl⟩
      rw [hLN] at hl HK HZ1 ⊢
      clear htot hgp hLN
      by_cases l0 : LN < 1
      · have l0d : decide (LN < 1) = true := decide_eq_true l0
        clear hl
        go_enter Tryz.func12, Tryz.ntmps12
        go_upto_region 1 with fail
        generalize World.alloc _ _ = w1 at HK HZ1 ⊢
        obtain ⟨g0, g1, g2, g3, gl⟩ := HK.out.g
        go_wp2_with fail
        refine (CG.out _).mono ?_
        rintro e w2 ⟨rfl, hb⟩
        have hk2 := HK.out.next hb
        obtain ⟨x0', x1', x2', x3', x4', x5', x6', x7', x8'⟩ := BoxC.cells hk2.x
        obtain ⟨g0', g1', g2', g3', gl'⟩ := hk2.g
        have HB := hid hk2.b
        clear hb hk2 g0 g1 g2 g3 gl
        go_wp2
        go_ret
        exact ⟨⟨_, rfl, World.ownsRow_nil _ _ _ _⟩, HB.out⟩
      · have l0d : decide (LN < 1) = false := decide_eq_false l0
        have l1 : s < LN := by omega
        have l1d : decide (s < LN) = true := decide_eq_true l1
        clear hl
        go_enter Tryz.func12, Tryz.ntmps12
        go_upto_region 1 with fail
        generalize World.alloc _ _ = w1 at HK HZ1 ⊢
        obtain ⟨g0, g1, g2, g3, gl⟩ := HK.out.g
        go_wp2_with fail
        refine (CG.out _).mono ?_
        rintro e w2 ⟨rfl, hb⟩
        have hk2 := HK.out.next hb
        obtain ⟨x0', x1', x2', x3', x4', x5', x6', x7', x8'⟩ := BoxC.cells hk2.x
        obtain ⟨g0', g1', g2', g3', gl'⟩ := hk2.g
        have HB := hid hk2.b
        clear hb hk2 g0 g1 g2 g3 gl
        go_wp2
        go_ret
        exact ⟨⟨_, rfl, World.ownsRow_nil _ _ _ _⟩, HB.out⟩
end Go.Proofs.YtigdcgklpapfbaaGreatDoor.S10

set_option linter.unusedVariables false
namespace Go.Proofs.YtigdcgklpapfbaaGreatDoor.S10
open Go Go.Proofs Go.RowKit Go.Lib Go.Proofs.YtigdcgklpapfbaaGreatDoor

set_option maxHeartbeats 16000000 in
set_option maxRecDepth 100000 in
theorem times_bad (d s b m : Int) (x : ClassD) (q : ClassA) (w : World) (hin : ClassIn w (fun k => k < w.heap.size) x q) (hbad : ¬ (gridB d s b m = true ∧ 1 ≤ x.len ∧ x.len ≤ s)) :
    Calls Tryz.prog 11 #[clsV x q, .agg #[.int .i64 d, .int .i64 s, .int .i64 b, .int .i64 m]] w fun e w' => (∃ v, e = .returned v ∧ TimeRow w' w.heap.size v (timesC d s b m x)) ∧ Below w.heap.size w w' := by
  obtain ⟨aP, cP, aF, cF, aS, cS, aT, cT⟩ := q
  obtain ⟨i9, hi9, hz9, hsi9, hby9⟩ := info_parts infoTime
  unfold clsV timesC
  have hk := KT.first w (clsArr x ⟨aP, cP, aF, cF, aS, cS, aT, cT⟩) d s b m
  have hz1 : ((w.alloc (.cells (clsArr x ⟨aP, cP, aF, cF, aS, cS, aT, cT⟩) 33)).alloc (.cells #[.int .i64 d, .int .i64 s, .int .i64 b, .int .i64 m] 24)).heap.size = w.heap.size + 2 := by simp
  unfold clsArr at hk hz1
  dsimp only at hk hz1 ⊢
  have cG := fun w => gvalid_any d s b m w
  unfold Says at cG
  have HK := hid hk
  have HZ1 := hid hz1
  have HP : Hid (NumsIn w (fun k => k < w.heap.size) aP x.pats ∧ x.pats.length ≤ cP ∧ cP ≤ 9223372036854775807) := hid ⟨hin.p, hin.p1, hin.p2⟩
  have HT : Hid (StartsIn w (fun k => k < w.heap.size) aT x.starts ∧ x.starts.length ≤ cT ∧ cT ≤ 9223372036854775807) := hid ⟨hin.t, hin.t1, hin.t2⟩
  clear hk hz1 hin
  cases hgr : gridB d s b m with
  | false =>
    rw [hgr] at cG
    have CG := hid cG
    clear cG hgr hbad
    rw [if_neg (by simp)]
    go_enter Tryz.func11, Tryz.ntmps11
    go_wp2
    go_step3
    go_upto_region 1 with fail
    generalize World.alloc _ _ = w1 at HK HZ1 ⊢
    obtain ⟨g0, g1, g2, g3, gl⟩ := HK.out.g
    obtain ⟨x0, x1, x2, x3, x4, x5, x6, x7, x8⟩ := BoxC.cells HK.out.x
    go_wp2_with fail
    refine (CG.out _).mono ?_
    rintro e w2 ⟨rfl, hb⟩
    have HB := hid (HK.out.next hb).b
    clear hb x0 x1 x2 x3 x4 x5 x6 x7 x8 g0 g1 g2 g3 gl
    go_wp2
    try rw [Exit.noGoto_ret]
    go_ret
    exact ⟨⟨_, rfl, World.ownsRow_nil _ _ _ _⟩, HB.out⟩
  | true =>
    rw [hgr] at cG
    have hgp := grid_of hgr
    have CG := hid cG
    have hl : ¬ (1 ≤ x.len ∧ x.len ≤ s) := fun h => hbad ⟨hgr, h⟩
    clear cG hgr
    rw [if_neg (fun h => hl ⟨h.2.1, h.2.2⟩)]
    have cL := fun w => isLength_any x.len d s b m w
    rw [decide_eq_false hl] at cL
    unfold Says at cL
    have CL := hid cL
    obtain ⟨LN, hLN⟩ : ∃ LN, x.len = LN := ⟨_, rfl⟩
    rw [hLN] at CL HK HZ1 ⊢
    clear cL hl hbad hgp hLN
    go_enter Tryz.func11, Tryz.ntmps11
    go_wp2
    go_step3
    go_upto_region 1 with fail
    generalize World.alloc _ _ = w1 at HK HZ1 ⊢
    obtain ⟨g0, g1, g2, g3, gl⟩ := HK.out.g
    obtain ⟨x0, x1, x2, x3, x4, x5, x6, x7, x8⟩ := BoxC.cells HK.out.x
    go_wp2_with fail
    refine (CG.out _).mono ?_
    rintro e w2 ⟨rfl, hb⟩
    have hk2 := HK.out.next hb
    obtain ⟨x0', x1', x2', x3', x4', x5', x6', x7', x8'⟩ := BoxC.cells hk2.x
    obtain ⟨g0', g1', g2', g3', gl'⟩ := hk2.g
    have HK2 := hid hk2
    clear hb hk2 x0 x1 x2 x3 x4 x5 x6 x7 x8 g0 g1 g2 g3 gl
    go_wp2_with fail
    refine (CL.out _).mono ?_
    rintro e w3 ⟨rfl, hb⟩
    have HB := hid (HK2.out.next hb).b
    clear hb x0' x1' x2' x3' x4' x5' x6' x7' x8' g0' g1' g2' g3' gl'
    go_wp2
    try rw [Exit.noGoto_ret]
    go_ret
    exact ⟨⟨_, rfl, World.ownsRow_nil _ _ _ _⟩, HB.out⟩
theorem times_all (d s b m : Int) (x : ClassD) (q : ClassA) (w : World) (hin : ClassIn w (fun k => k < w.heap.size) x q) (htot : gridB d s b m = true → 1 ≤ x.len ∧ x.len ≤ s → x.pats.length * (startsOf d s x).length ≤ 4096) :
    Calls Tryz.prog 11 #[clsV x q, .agg #[.int .i64 d, .int .i64 s, .int .i64 b, .int .i64 m]] w fun e w' => (∃ v, e = .returned v ∧ TimeRow w' w.heap.size v (timesC d s b m x)) ∧ Below w.heap.size w w' := by
  by_cases h : gridB d s b m = true ∧ 1 ≤ x.len ∧ x.len ≤ s
  · exact times_any d s b m x q w hin (htot h.1 h.2)
  · exact times_bad d s b m x q w hin h
end Go.Proofs.YtigdcgklpapfbaaGreatDoor.S10

set_option linter.unusedVariables false
namespace Go.Proofs.YtigdcgklpapfbaaGreatDoor.S10
open Go Go.Proofs Go.RowKit Go.Lib Go.Proofs.YtigdcgklpapfbaaGreatDoor

theorem dayStarts_le {y k : Nat} : ∀ t ∈ dayStarts y k, t.2 ≤ (k : Int) := by
  intro t ht
  obtain ⟨u, hu, rfl⟩ := List.mem_map.1 ht
  have := List.mem_range.1 hu
  show (u : Int) ≤ k
  omega
theorem allS_le {d s len : Int} (hs : s ≤ 24) (hl : 1 ≤ len) : ∀ t ∈ allS d s len, t.2 ≤ 9223372036854775807 := by
  intro t ht
  obtain ⟨y, _, hy⟩ := List.mem_flatMap.1 ht
  have := dayStarts_le t hy
  omega
theorem timesC_le {d s b m : Int} {x : ClassD} (hx : ∀ t ∈ x.starts, t.2 ≤ 9223372036854775807) : ∀ t ∈ timesC d s b m x, t.2.2.1 ≤ 9223372036854775807 := by
  intro t ht
  unfold timesC at ht
  split at ht
  · rename_i h
    have hs := (grid_of h.1).2.1.2
    obtain ⟨k, _, hk⟩ := List.mem_flatMap.1 ht
    obtain ⟨u, hu, rfl⟩ := List.mem_map.1 hk
    show u.2 ≤ _
    unfold startsOf at hu
    split at hu
    · exact allS_le hs h.2.1 u hu
    · exact hx u hu
  · simp at ht
theorem tot_le {d s b m : Int} {x : ClassD} (hp : x.pats.length ≤ 20) (ht : x.starts.length ≤ 60) : gridB d s b m = true → 1 ≤ x.len ∧ x.len ≤ s → x.pats.length * (startsOf d s x).length ≤ 4096 := by
  intro hg hl
  have h := grid_of hg
  have hk : (startsOf d s x).length ≤ 168 := by
    unfold startsOf
    split
    · unfold allS
      rw [allN_len]
      have h1 : d.toNat ≤ 7 := by have := h.1; omega
      have h2 : (s - x.len + 1).toNat ≤ 24 := by have := h.2.1; omega
      exact Nat.le_trans (Nat.mul_le_mul h1 h2) (by omega)
    · omega
  exact Nat.le_trans (Nat.mul_le_mul hp hk) (by omega)
theorem timesC_len {d s b m : Int} {x : ClassD} (h : gridB d s b m = true → 1 ≤ x.len ∧ x.len ≤ s → x.pats.length * (startsOf d s x).length ≤ 4096) : (timesC d s b m x).length ≤ 4096 := by
  unfold timesC
  split
  · rename_i hc
    rw [List.length_flatMap, show (fun k => (timesOf k x.len (startsOf d s x)).length) = fun _ : Int => (startsOf d s x).length from funext fun k => by simp [timesOf], sum_const]
    exact h hc.1 hc.2
  · simp
end Go.Proofs.YtigdcgklpapfbaaGreatDoor.S10

set_option linter.unusedVariables false
namespace Go.Proofs.YtigdcgklpapfbaaGreatDoor.S10
open Go Go.Proofs Go.RowKit Go.Lib Go.Proofs.YtigdcgklpapfbaaGreatDoor

set_option maxHeartbeats 4000000 in
set_option maxRecDepth 100000 in
theorem sameTimes_any (A A' : Option Addr) (l : List TimeD) (c c' : Nat) (P P' : Nat → Prop) (w : World) (h : TimesIn w P A l) (h' : TimesIn w P' A' l) (hl : l.length ≤ 9223372036854775807) :
    Calls Tryz.prog 10 #[.slice A l.length c, .slice A' l.length c'] w fun e w' => e = .returned (.bool true) ∧ ∃ q, w' = w.drewN q := by
  have H := hid h
  have H' := hid h'
  clear h h'
  go_enter Tryz.func10, Tryz.ntmps10
  go_wp2
  go_loopw [5] (fun i wr => ∃ k : Nat, i = .int .i64 (k : Int) ∧ k ≤ l.length ∧ ∃ q, wr = w.drewN q) (fun i _ => l.length - (RowKit.intOf i).toNat)
  case atStart => exact ⟨0, rfl, Nat.zero_le _, 0, rfl⟩
  case round =>
    obtain ⟨k, rfl, hk, q, rfl⟩ := hrel
    by_cases hlt : k < l.length
    · have hltz : (k : Int) < (l.length : Int) := by omega
      obtain ⟨b1, o1, rfl, _, a0, a1, a2, a3⟩ := H.out.at_ hlt
      obtain ⟨b2, o2, rfl, _, e0, e1, e2, e3⟩ := H'.out.at_ hlt
      obtain ⟨⟨t1, t2, t3, t4⟩, ht⟩ : ∃ t, l[k] = t := ⟨_, rfl⟩
      rw [ht] at a0 a1 a2 a3 e0 e1 e2 e3
      dsimp only at a0 a1 a2 a3 e0 e1 e2 e3
      have d1 : decide (l.length ≤ k) = false := decide_eq_false (by omega)
      clear ht
      go_wp2
      go_quiet (fail)
      go_wp2
      go_roundw
      case rel => exact ⟨k + 1, by go_num, by omega, q + nq, by first | rfl | rw [World.drewN_drewN]⟩
      case measure => simp [RowKit.intOf]; omega
    · have hltz : ¬ (k : Int) < (l.length : Int) := by omega
      go_wp2
      go_ret
      exact ⟨rfl, q, rfl⟩
end Go.Proofs.YtigdcgklpapfbaaGreatDoor.S10

set_option linter.unusedVariables false
namespace Go.Proofs.YtigdcgklpapfbaaGreatDoor
open Go Go.Proofs Go.RowKit Go.Lib

theorem own_lt {W : World} {B e z n : Nat} {v : Value} {xs : List Value} (h : W.ownsRow B e z v n xs) : ∀ k, v.ownBlock = some k → B ≤ k ∧ k < W.heap.size := World.ownsRow.lt h
section
variable {M : Nat} {w W W' : World} {rs : List RoomD} {ps : List ProbD} {cs cs' : List Str} {v1 v2 : Value}
theorem kinds_ne {B B' e e' z z' n n' : Nat} {v v' : Value} {xs xs' : List Value} (h : W.ownsRow B e z v n xs) (h' : W.ownsRow B' e' z' v' n' xs') (hne : e ≠ e') : v.ownBlock = none ∨ v.ownBlock ≠ v'.ownBlock := by
  cases hv : v.ownBlock with
  | none => exact .inl rfl
  | some g =>
    refine .inr fun e0 => ?_
    obtain ⟨c, hc⟩ := row_kindT h g hv
    obtain ⟨c', hc'⟩ := row_kindT h' g e0.symm
    rw [hc] at hc'
    injection hc' with h1
    injection h1 with _ h2
    exact hne h2
end
theorem setF_code (d s b m n : Int) (K : Nat) (hK : 0 < K) (i : Nat) (x : Str) (r : RoomD) (hx : x.length < K) (hr : r.1.length < K) : (setF d s b m n i x r).1.1.length < K := by
  match i with
  | 0 => simp only [setF]; split <;> simp_all
  | 1 => simp only [setF]; split <;> simp_all
  | 2 => exact hr
  | 3 => exact hr
  | 4 => exact hr
  | j + 5 => exact hr
theorem efold_code (d s b m n : Int) (K : Nat) (hK : 0 < K) : ∀ (fs : List FieldD) (i : Nat) (r : RoomD), (∀ f ∈ fs, f.1.length < K) → r.1.length < K → (efold d s b m n fs i r).1.1.length < K
  | [], _, r, _, hr => hr
  | f :: fs, i, r, h, hr => by
    unfold efold
    have h1 := setF_code d s b m n K hK i f.1 r (h f (by simp)) hr
    split
    · exact h1
    · exact efold_code d s b m n K hK fs (i + 1) _ (fun g hg => h g (by simp [hg])) h1
theorem entryM_code (d s b m n : Int) (K : Nat) (hK : 0 < K) (fs : List FieldD) (h : ∀ f ∈ fs, f.1.length < K) : (entryM d s b m n fs).1.1.length < K := by
  unfold entryM
  split
  · exact hK
  · exact efold_code d s b m n K hK fs 0 zeroR h hK
end Go.Proofs.YtigdcgklpapfbaaGreatDoor

