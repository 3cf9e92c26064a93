/-
  Lists of classes: the closure of Valid, Check of package entries, Valid of coursefile. Conditions: the classes lie in memory.
-/
import Derived.Test.YtigdcgklpapfbaaGreatDoorVN01
import Derived.Test.YtigdcgklpapfbaaGreatDoorVN02
import Derived.Test.YtigdcgklpapfbaaGreatDoorVN03
import Derived.Test.YtigdcgklpapfbaaGreatDoorVN04
import Derived.Test.YtigdcgklpapfbaaGreatDoorVN05
import Derived.Test.YtigdcgklpapfbaaGreatDoorVN06
import Derived.Test.YtigdcgklpapfbaaGreatDoorVN07
import Derived.Test.YtigdcgklpapfbaaGreatDoorVN08
import Derived.Test.YtigdcgklpapfbaaGreatDoorVN09
import Derived.Test.YtigdcgklpapfbaaGreatDoorVN10
import Derived.Test.YtigdcgklpapfbaaGreatDoorVN11
import Derived.Test.YtigdcgklpapfbaaGreatDoorVN12
import Derived.Test.YtigdcgklpapfbaaGreatDoorVN13
import Derived.Test.YtigdcgklpapfbaaGreatDoorVN14
import Derived.Test.YtigdcgklpapfbaaGreatDoorVN15
import Derived.Test.YtigdcgklpapfbaaGreatDoorVN16
import Derived.Test.YtigdcgklpapfbaaGreatDoorVN17
import Derived.Test.YtigdcgklpapfbaaGreatDoorVN18
import Derived.Test.YtigdcgklpapfbaaGreatDoorVN19
import Derived.Test.YtigdcgklpapfbaaGreatDoorVN20
import Derived.Test.YtigdcgklpapfbaaGreatDoorVN21
import Derived.Test.YtigdcgklpapfbaaGreatDoorVN22
import Derived.Test.YtigdcgklpapfbaaGreatDoorVN23
import Derived.Test.YtigdcgklpapfbaaGreatDoorProg
import Derived.WalkKit
import Derived.WalkSpells
import Derived.WalkLawsBesides
import Derived.Lib.Hide
import Derived.Deep.QuietTactic
import Derived.BigQuiet
import Derived.Laws.Rows
import Derived.OwnWalk
import Derived.Lib.BufferWrite
import Derived.Lib.UnsafeStr
import Derived.Laws.IdiomStrings
import Derived.Laws.BytesArg
import Derived.Laws.BytesString
import Derived.Laws.OwnMore
import Derived.Lib.IndexLaws
import Derived.Lib.ItoaNum
import Derived.Lib.Atoi
import Derived.Laws.BitsAllLaws
import Derived.Laws.BitsLemmas
import Derived.Deep.MidRow
import Derived.Shelf.Strings.Builder1
import Derived.Shelf.Strings.Builder2
import Derived.Shelf.Strings.OnBuilder
import Derived.Shelf.Strings.Trim
import Derived.Shelf.Small.Bits
import Derived.Shelf.Small.Strs
import Derived.Shelf.Small.Wraps
import Derived.Shelf.Strings.BuilderF
import Derived.Shelf.Strings.BuilderK
import Derived.Shelf.Strings.Builder2Cap
import Derived.Shelf.Strconv.Atoi
import Derived.Shelf.Strconv.Itoa0
import Derived.Shelf.Strconv.Itoa1
import Derived.Shelf.LaysM
import Derived.Shelf.Strconv.Itoa2
import Derived.Shelf.Strconv.Itoa3
import Derived.Shelf.Strconv.AtoiErrFast
import Derived.Shelf.Strconv.ParseIntEmpty
import Derived.Shelf.Strconv.AtoiFail
import Derived.Shelf.Strconv.Clone
import Derived.Shelf.Strconv.SyntaxError
import Derived.Shelf.LaysC
import Derived.Shelf.Strconv.ToError
import Derived.Shelf.Strconv.AtoiErr
import Derived.Shelf.Strings.Search1
import Derived.Shelf.Strings.Search2
import Derived.Shelf.Strings.Search3
import Derived.Shelf.Strings.Cut
import Derived.Shelf.Strings.Shaped
import Derived.Shelf.Strings.Prefix
import Derived.Shelf.Strings.Runes
import Derived.Shelf.Strings.AsciiSet
import Derived.Shelf.Bits.Mul64
import Derived.Shelf.Strings.Repeat
import Derived.Shelf.Unicode.DecodeSlow
import Derived.Shelf.Strings.BuilderCap
import Derived.Shelf.Slices.Turned
import Derived.Ground.SlgfProg
import Derived.Shelf.SlicesE.IndexFunc
import Derived.Lib.AtoiErrMem
import Derived.Handy
import Derived.RangeFuncNested
import Derived.RangeFuncBound
import Derived.RangeFuncCalls
import Derived.RangeFuncLeaves
import Derived.Shelf.Abstract
import Derived.Shelf.RegionOpen
import Derived.OwnWalkIn
import Derived.Lib.Bytealg
import Derived.Lib.SlTrimSet
import Derived.Shelf.Strings.SlTrimAscii
import Derived.Laws.ResultCell
import Derived.RegionTactic
import Derived.Lib.Repeat
import Derived.Deep.RegionHeld3
import Derived.Lib.SlicesS
import Derived.TacticsInMore
import Derived.LoopNIn
import Derived.LoopIn
import Derived.Deep.DeepCutAuto
import Derived.Lib.Join
import Derived.Laws.Concat
import Derived.Maps.OwnSet
import Derived.Maps.Range
import Derived.Sort.EncStr
import Derived.Deep.RegionLaw
import Derived.Sort.Grow
import Derived.Shelf.SlGeneric
import Derived.Shelf.SlSortCmp.NoneTotal
import Derived.Ground.SlsfProg
import Derived.Sort.OwnSorted
import Derived.RangeFuncBox
import Derived.Sort.Walk0
import Derived.Lib.AppendIntMem
import Derived.Lib.QuietBelow
import Derived.WalkMore
set_option linter.unusedVariables false
namespace Go.Proofs.YtigdcgklpapfbaaGreatDoor.S10
open Go Go.Proofs Go.RowKit Go.Lib Go.Proofs.YtigdcgklpapfbaaGreatDoor

theorem vlen16 {s : Str} (h : S3.validC s = true) : s.length ≤ 16 := by
  unfold S3.validC at h
  cases s with
  | nil => simp
  | cons a r => simp at h; simp; omega
set_option maxHeartbeats 2000000 in
set_option maxRecDepth 100000 in
/-- The closure that checks one class. -/
theorem check1_any (d s b m n : Int) (x : ClassD) (q : ClassA) (G N : Nat) (w : World) (hG : Box4 w G d s b m) (hN : w.cell? ⟨N, 0, none⟩ = some (.int .i64 n)) (hNl : N < w.heap.size) (h : ClassIn w (fun b => b < w.heap.size) x q) (hin : ∀ t ∈ x.starts, t.2 ≤ 9223372036854775807) :
    Calls Tryz.prog 47 #[clsV x q, .pointer (some ⟨G, 0, none⟩), .pointer (some ⟨N, 0, none⟩)] w (Says (.int .i64 (checkM d s b m n x)) w) := by
  have hb1 := (Below.refl w.heap.size w).alloc (Nat.le_refl _) (.cells (clsArr x q) 33)
  have hGl := hG.lt
  obtain ⟨w1, hw1⟩ : ∃ w1, w.alloc (.cells (clsArr x q) 33) = w1 := ⟨_, rfl⟩
  have hX := BoxC.new w (clsArr x q)
  rw [hw1] at hX hb1
  have cC := check_any d s b m n x q w1 ((h.below hb1).mono (fun k hk => Nat.lt_of_lt_of_le hk hb1.size)) hin
  obtain ⟨R, hR⟩ : ∃ R, checkM d s b m n x = R := ⟨_, rfl⟩
  rw [hR] at cC ⊢
  obtain ⟨c0, c1, c2, len, pats, seats, feats, staff, starts⟩ := x
  obtain ⟨aP, cP, aF, cF, aS, cS, aT, cT⟩ := q
  unfold Says clsV at *
  unfold clsArr at hw1 hX
  dsimp only at cC hw1 hX ⊢
  obtain ⟨X0, hX0⟩ : ∃ X, ba c0 = X := ⟨_, rfl⟩
  obtain ⟨X1, hX1⟩ : ∃ X, ba c1 = X := ⟨_, rfl⟩
  obtain ⟨X2, hX2⟩ : ∃ X, ba c2 = X := ⟨_, rfl⟩
  obtain ⟨nP, hnP⟩ : ∃ F, pats.length = F := ⟨_, rfl⟩
  obtain ⟨nF, hnF⟩ : ∃ F, feats.length = F := ⟨_, rfl⟩
  obtain ⟨nS, hnS⟩ : ∃ F, staff.length = F := ⟨_, rfl⟩
  obtain ⟨nT, hnT⟩ : ∃ F, starts.length = F := ⟨_, rfl⟩
  rw [hX0, hX1, hX2, hnP, hnF, hnS, hnT] at cC hw1 hX ⊢
  obtain ⟨g0, g1, g2, g3, _⟩ := hG
  obtain ⟨x0, x1, x2, x3, x4, x5, x6, x7, x8⟩ := hX.cells
  have CC := hid cC
  have HB := hid hb1
  have HW1 := hid hw1
  clear cC hX hb1 h hR hw1 hX0 hX1 hX2 hnP hnF hnS hnT hin
  go_enter Tryz.func47, Tryz.ntmps47
  go_wp2_with fail
  (try rw [HW1.out])
  refine CC.out.mono ?_
  rintro e w' ⟨rfl, hb3⟩
  have HB3 := hid (HB.out.trans (hb3.mono HB.out.size))
  clear hb3
  go_wp2
  go_ret
  exact ⟨rfl, HB3.out⟩

theorem grown_underV {w w1 w2 : World} {M : Nat} (h : w.grownBy w1 (some M)) (hb : Below w1.heap.size w1 w2) : w.grownBy w2 (some M) :=
  h.andThen (below_grown hb (Nat.le_refl _)) (fun j hj => by cases hj)
theorem addKV_ok {l : List Str} {c : Str} (hm : c ∉ l) (hl : l.length < 24) : addK 24 l c = (l ++ [c], 0) := by
  unfold addK; rw [if_neg hm, if_neg (by omega)]
theorem addKV_dup {l : List Str} {c : Str} (hm : c ∈ l) : addK 24 l c = (l, 11) := if_pos hm
/-- What holds around the loop: the boxes. -/
structure CKV (d s b m n : Int) (G N KB AB MB M : Nat) (w : World) : Prop where
  g : Box4 w G d s b m
  n : Box1 w N 3 (.int .i64 n)
  d : DistIn w KB AB MB M
  gm : G ≠ M
  nm : N ≠ M
  km : KB ≠ M
  am : AB ≠ M
  mm : MB ≠ M
theorem CKV.grown {d s b m n : Int} {G N KB AB MB M : Nat} {w w' : World} (h : CKV d s b m n G N KB AB MB M w) (hg : w.grownBy w' (some M)) : CKV d s b m n G N KB AB MB M w' := by
  have kb : ∀ k, k < w.heap.size → k ≠ M → w'.heap[k]? = w.heap[k]? := fun k hk hn => hg.block k hk (fun e => hn (Option.some.inj e))
  have hgb := kb _ h.g.lt h.gm
  have hx := h.g
  have kc : ∀ o : Nat, w'.cell? ⟨G, o, none⟩ = w.cell? ⟨G, o, none⟩ := fun o => World.cell?_of_block (w := w) hgb
  exact ⟨⟨(kc 0).trans hx.c0, (kc 1).trans hx.c1, (kc 2).trans hx.c2, (kc 3).trans hx.c3, Nat.lt_of_lt_of_le hx.lt hg.size⟩, h.n.kept (kb _ h.n.lt h.nm),
    h.d.kept (fun k hk => by
      rcases hk with rfl | rfl | rfl
      · exact kb _ h.d.k.lt h.km
      · exact kb _ h.d.a.lt h.am
      · exact kb _ h.d.m.lt h.mm), h.gm, h.nm, h.km, h.am, h.mm⟩

set_option maxHeartbeats 16000000 in
set_option maxRecDepth 100000 in
theorem chk_any (d s b m n : Int) (A : Option Addr) (l : List ClassD) (c G N KB AB MB M : Nat) (w : World) (h : ClassesIn w (fun k => k < M) A l) (hin : ∀ x ∈ l, ∀ t ∈ x.starts, t.2 ≤ 9223372036854775807) (hM : KMap w M []) (hC : CKV d s b m n G N KB AB MB M w) :
    Calls Tryz.prog 49 #[.slice A l.length c, .int .i64 24, .func (.func 47) #[] #[.pointer (some ⟨G, 0, none⟩), .pointer (some ⟨N, 0, none⟩)],
      .func (.func 79) #[] #[.pointer (some ⟨KB, 0, none⟩), .pointer (some ⟨AB, 0, none⟩), .pointer (some ⟨MB, 0, none⟩)]] w
      fun e w' => e = .returned (.int .i64 (if 24 < l.length then 2 else goK d s b m n [] l)) ∧ w.grownBy w' (some M) := by
  have HIN := hid hin
  clear hin
  have eg1 : ∀ args w, (callFunc 47 args).run Tryz.prog w = .ok (.enter 47 args) w := enters_of Tryz.func47 (by kernel_rfl) rfl
  have eg2 : ∀ args w, (callFunc 79 args).run Tryz.prog w = .ok (.enter 79 args) w := enters_of Tryz.func79 (by kernel_rfl) rfl
  obtain ⟨R, hR⟩ : ∃ R, (if 24 < l.length then 2 else goK d s b m n [] l) = R := ⟨_, rfl⟩
  rw [hR]
  have hg0 : w.grownBy w (some M) := grown_none (below_grown (Below.refl _ w) (Nat.le_refl _))
  by_cases h24 : 24 < l.length
  · rw [if_pos h24] at hR
    subst hR
    have hz : (24 : Int) < (l.length : Int) := by omega
    have HG0 := hid hg0
    clear hg0 hC hM h h24
    go_enter Tryz.func49, Tryz.ntmps49
    go_wp2
    go_ret
    exact ⟨rfl, HG0.out⟩
  · rw [if_neg h24] at hR
    have hz : ¬ (24 : Int) < (l.length : Int) := by omega
    have HR : Hid (goK d s b m n (codesK (l.take 0)) (l.drop 0) = R) := hid hR
    have HM := hid hM
    have HC := hid hC
    have HH := hid h
    have HG0 := hid hg0
    have HMl := hid hM.lt
    clear hR hg0 hC hM h
    go_enter Tryz.func49, Tryz.ntmps49
    go_wp2
    go_loopw [10, 11, 12, 19] (fun _ _ _ iv wr => ∃ i : Nat, iv = .int .i64 (i : Int) ∧ i ≤ l.length ∧ Hid (goK d s b m n (codesK (l.take i)) (l.drop i) = R) ∧ Hid (KMap wr M (codesK (l.take i))) ∧ Hid (w.grownBy wr (some M))) (fun _ _ _ iv _ => l.length - (RowKit.intOf iv).toNat)
    case atStart => exact ⟨0, rfl, Nat.zero_le _, HR, hid HM.out, HG0⟩
    case round =>
      obtain ⟨i, rfl, hi, hE, hS, hK⟩ := hrel
      by_cases hlt : i < l.length
      · have hltz : (i : Int) < (l.length : Int) := by omega
        have hst := goK_step d s b m n l i hlt
        rw [hE.out] at hst
        have hcl : (codesK (l.take i)).length = i := by simp [codesK]; omega
        have hCr := HC.out.grown hK.out
        obtain ⟨fb, fo, q, rfl, hfb, hri, hat⟩ := (HH.out.kept (fun k hk => hK.out.block k (Nat.lt_trans hk HMl.out) (fun e => by injection e with e; omega))).at_ hlt
        have hadd : codesK (l.take (i + 1)) = codesK (l.take i) ++ [l[i].code] := by rw [List.take_succ_eq_append_getElem hlt]; unfold codesK; rw [List.map_append]; rfl
        have hMwr : M < wr.heap.size := Nat.lt_of_lt_of_le HMl.out hK.out.size
        have hb1 := (Below.refl wr.heap.size wr).alloc (Nat.le_refl _) (.cells (clsArr l[i] q) 33)
        have hX := BoxC.new wr (clsArr l[i] q)
        have hs1 : (wr.alloc (.cells (clsArr l[i] q) 33)).heap.size = wr.heap.size + 1 := by simp
        obtain ⟨w1, hw1⟩ : ∃ w1, wr.alloc (.cells (clsArr l[i] q) 33) = w1 := ⟨_, rfl⟩
        rw [hw1] at hb1 hX hs1
        have hg1 := grown_underV hK.out hb1
        have hC1 := HC.out.grown hg1
        have hS1 := hS.out.below hb1
        have cC := check1_any d s b m n l[i] q G N w1 hC1.g hC1.n.cell hC1.n.lt ((hri.kept (fun k hk => hb1.block k (Nat.lt_trans hk hMwr))).mono (fun k hk => by have := hb1.size; omega)) (HIN.out l[i] (List.getElem_mem hlt))
        have hcode : checkM d s b m n l[i] = 0 → l[i].code.length ≤ 16 := fun h => vlen16 (checkM_code h)
        unfold Says clsV at cC
        obtain ⟨⟨c0, c1, c2, len, pats, seats, feats, staff, starts⟩, hr⟩ : ∃ r, l[i] = r := ⟨_, rfl⟩
        obtain ⟨aP, cP, aF, cF, aS, cS, aT, cT⟩ := q
        unfold clsArr at hX hw1
        rw [hr] at hst hat cC hadd hcode hX hw1
        dsimp only at hst hat cC hadd hX hw1
        obtain ⟨E, hE2⟩ : ∃ E, checkM d s b m n ⟨c0, c1, c2, len, pats, seats, feats, staff, starts⟩ = E := ⟨_, rfl⟩
        rw [hE2] at cC hst hcode
        dsimp only at hcode
        obtain ⟨X0, hX0⟩ : ∃ X, ba c0 = X := ⟨_, rfl⟩
        obtain ⟨X1, hX1⟩ : ∃ X, ba c1 = X := ⟨_, rfl⟩
        obtain ⟨X2, hX2⟩ : ∃ X, ba c2 = X := ⟨_, rfl⟩
        obtain ⟨nP, hnP⟩ : ∃ F, pats.length = F := ⟨_, rfl⟩
        obtain ⟨nF, hnF⟩ : ∃ F, feats.length = F := ⟨_, rfl⟩
        obtain ⟨nS, hnS⟩ : ∃ F, staff.length = F := ⟨_, rfl⟩
        obtain ⟨nT, hnT⟩ : ∃ F, starts.length = F := ⟨_, rfl⟩
        unfold ClassAt at hat
        dsimp only at hat
        rw [hX0, hX1, hX2, hnP, hnF, hnS, hnT] at hat cC hw1 hX
        obtain ⟨y0, y1, y2, y3, y4, y5, y6, y7, y8⟩ := hat
        have hX1l : lst X0 = c0 := by rw [← hX0]; rfl
        have HXL := hid hX1l
        have HST := hid hst
        have HADD := hid hadd
        have HCODE := hid hcode
        have HCL := hid hcl
        have HW1 := hid hw1
        have HX := hid hX
        have HC1 := hid hC1
        have HG1 := hid hg1
        have HS1 := hid hS1
        have HZ1 := hid hs1
        have CC := hid cC
        clear hr hE2 hX0 hX1 hX2 hnP hnF hnS hnT hX1l hst hadd hcode hcl hw1 hX hC1 hg1 hS1 hs1 cC hri hfb hE hK hS hb1 hCr hMwr
        by_cases hE0 : E = 0
        · subst hE0
          have hst := HST.out
          rw [if_neg (by simp)] at hst
          have hcl16 := HCODE.out rfl
          by_cases hm : c0 ∈ codesK (l.take i)
          · rw [if_pos hm] at hst
            have HRR := hid hst
            clear hst
            go_wp2_with fail
            rw [HW1.out]
            refine CC.out.mono ?_
            rintro e w2 ⟨rfl, hb2⟩
            have hXX := HX.out.next hb2
            have hS2 := HS1.out.below hb2
            have hg2 := grown_underV HG1.out hb2
            have hC2 := HC.out.grown hg2
            obtain ⟨z0, z1, z2, z3, z4, z5, z6, z7, z8⟩ := hXX.cells
            have cA := dist_any KB AB MB M (codesK (l.take i)) X0 X1 X2 len aP nP cP seats aF nF cF aS nS cS aT nT cT (by rw [HCL.out]; omega) (by rw [Lib.size_eq]; show (lst X0).length ≤ maxLen; rw [HXL.out]; unfold maxLen; omega) w2 hC2.d hS2
            unfold AddOutK at cA
            rw [HXL.out, addKV_dup hm] at cA
            dsimp only at cA
            have CA := hid cA
            have HG2 := hid hg2
            clear cA hC2 hS2 hXX hb2 hg2 hm
            go_wp2_with fail
            refine CA.out.mono ?_
            rintro e w3 ⟨rfl, hS3, hg3⟩
            have HG3 := hid (HG2.out.andThen hg3 (fun j hj => .inr hj))
            clear hg3 hS3
            go_wp2
            go_ret
            rw [HRR.out]
            exact ⟨rfl, HG3.out⟩
          · rw [if_neg hm] at hst
            have HRR := hid hst
            clear hst
            go_wp2_with fail
            rw [HW1.out]
            refine CC.out.mono ?_
            rintro e w2 ⟨rfl, hb2⟩
            have hXX := HX.out.next hb2
            have hS2 := HS1.out.below hb2
            have hg2 := grown_underV HG1.out hb2
            have hC2 := HC.out.grown hg2
            obtain ⟨z0, z1, z2, z3, z4, z5, z6, z7, z8⟩ := hXX.cells
            have cA := dist_any KB AB MB M (codesK (l.take i)) X0 X1 X2 len aP nP cP seats aF nF cF aS nS cS aT nT cT (by rw [HCL.out]; omega) (by rw [Lib.size_eq]; show (lst X0).length ≤ maxLen; rw [HXL.out]; unfold maxLen; omega) w2 hC2.d hS2
            unfold AddOutK at cA
            rw [HXL.out, addKV_ok hm (by rw [HCL.out]; omega)] at cA
            dsimp only at cA
            rw [← HADD.out] at cA
            have CA := hid cA
            have HG2 := hid hg2
            clear cA hC2 hS2 hXX hb2 hg2 hm
            go_wp2_with fail
            refine CA.out.mono ?_
            rintro e w3 ⟨rfl, hS3, hg3⟩
            have HG3 := hid (HG2.out.andThen hg3 (fun j hj => .inr hj))
            have HS3 := hid hS3
            clear hg3 hS3
            go_wp2
            go_roundw
            case rel => exact ⟨i + 1, by go_num, by omega, hid HRR.out.symm, hid HS3.out, hid HG3.out⟩
            case measure => simp [RowKit.intOf]; omega
        · have hst := HST.out
          rw [if_pos hE0] at hst
          have HRR := hid hst
          have hE0' : (E != 0) = true := by simpa using hE0
          have hE0'' : (E == 0) = false := by simpa using hE0
          clear hst
          go_wp2_with fail
          rw [HW1.out]
          refine CC.out.mono ?_
          rintro e w2 ⟨rfl, hb2⟩
          have HG2 := hid (grown_underV HG1.out hb2)
          clear hb2
          go_wp2
          go_ret
          rw [HRR.out]
          exact ⟨rfl, HG2.out⟩
      · have hltz : ¬ (i : Int) < (l.length : Int) := by omega
        have hn : Hid (R = 0) := hid (by rw [← hE.out, List.drop_of_length_le (by omega)]; rfl)
        go_wp2
        go_ret
        rw [hn.out]
        exact ⟨rfl, hK.out⟩

set_option maxHeartbeats 16000000 in
set_option maxRecDepth 100000 in
theorem kvalid_any (d s b m n : Int) (A : Option Addr) (l : List ClassD) (c : Nat) (w : World) (h : ClassesIn w (fun k => k < w.heap.size) A l) (hin : ∀ x ∈ l, ∀ t ∈ x.starts, t.2 ≤ 9223372036854775807) :
    Calls Tryz.prog 16 #[.slice A l.length c, .agg #[.int .i64 d, .int .i64 s, .int .i64 b, .int .i64 m], .int .i64 n] w (Says (.int .i64 (validK d s b m n l)) w) := by
  have cF := fun w => rframe_any d s b m n w
  unfold Says at cF ⊢
  have hG := Box4.new w d s b m 24
  have hb1 := (Below.refl w.heap.size w).alloc (Nat.le_refl _) (.cells #[.int .i64 d, .int .i64 s, .int .i64 b, .int .i64 m] 24)
  have hs1 : (w.alloc (.cells #[.int .i64 d, .int .i64 s, .int .i64 b, .int .i64 m] 24)).heap.size = w.heap.size + 1 := by simp
  obtain ⟨w1, hw1⟩ : ∃ w1, w.alloc (.cells #[.int .i64 d, .int .i64 s, .int .i64 b, .int .i64 m] 24) = w1 := ⟨_, rfl⟩
  rw [hw1] at hG hb1 hs1
  have hN := Box1.new w1 3 (.int .i64 n)
  have hb2 := (Below.refl w1.heap.size w1).alloc (Nat.le_refl _) (.cells #[.int .i64 n] 3)
  obtain ⟨w2, hw2⟩ : ∃ w2, w1.alloc (.cells #[.int .i64 n] 3) = w2 := ⟨_, rfl⟩
  rw [hw2] at hN hb2
  rw [hs1] at hN
  have hG2 := hG.next hb2 hG.lt
  have hb := hb1.trans (hb2.mono (by omega))
  have HG := hid hG2
  have HN := hid hN
  have HB := hid hb
  have HW1 := hid hw1
  have HW2 := hid hw2
  have HH := hid h
  clear hG hb1 hs1 hw1 hN hb2 hw2 hG2 hb h
  cases hf : frameB d s b m n with
  | false =>
    rw [hf] at cF
    have hR : validK d s b m n l = 1 := by unfold validK; rw [if_pos hf]
    rw [hR]
    clear hf hR
    go_enter Tryz.func16, Tryz.ntmps16
    go_wp2_with fail
    (try rw [HW1.out])
    (try rw [HW2.out])
    refine (cF _).mono ?_
    rintro e w3 ⟨rfl, hb3⟩
    have HB3 := hid (HB.out.trans (hb3.mono HB.out.size))
    clear hb3
    go_wp2
    go_ret
    exact ⟨rfl, HB3.out⟩
  | true =>
    rw [hf] at cF
    have hR : validK d s b m n l = if 24 < l.length then 2 else goK d s b m n [] l := by unfold validK; rw [if_neg (by simp [hf])]
    obtain ⟨R, hR'⟩ : ∃ R, validK d s b m n l = R := ⟨_, rfl⟩
    rw [hR']
    rw [hR'] at hR
    have HR := hid hR
    clear hf hR hR'
    go_enter Tryz.func16, Tryz.ntmps16
    go_wp2_with fail
    (try rw [HW1.out])
    (try rw [HW2.out])
    refine (cF _).mono ?_
    rintro e w3 ⟨rfl, hb3⟩
    have hB3 := HB.out.trans (hb3.mono HB.out.size)
    have hG3 := HG.out.next hb3 HG.out.lt
    have hN3 := HN.out.next hb3
    have HB3 := hid hB3
    have HG3 := hid hG3
    have HN3 := hid hN3
    clear hb3 hB3 hG3 hN3
    go_wp2_with fail
    refine (distinct_any w3).mono ?_
    rintro e w4 ⟨KB, AB, MB, M, rfl, hD, hM, hM4, k1, k2, k3, hb4⟩
    have hG4 := HG3.out.next hb4 HG3.out.lt
    have hN4 := HN3.out.next hb4
    have hgl := HG3.out.lt
    have hnl := HN3.out.lt
    have hc := chk_any d s b m n A l c w.heap.size (w.heap.size + 1) KB AB MB M w4 (((HH.out.below HB3.out).kept (fun k hk => hb4.block k (by omega))).mono (fun k hk => by omega)) hin hM ⟨hG4, hN4, hD, by omega, by omega, k1, k2, k3⟩
    rw [← HR.out] at hc
    have HC := hid hc
    have HB4 := hid (HB3.out.trans (hb4.mono HB3.out.size))
    have HML : Hid (w.heap.size ≤ M) := hid (by have := HB3.out.size; omega)
    have HM4 := hid hM.lt
    clear hc hD hM hM4 k1 k2 k3 hb4 hG4 hN4 hgl hnl
    go_wp2_with fail
    refine HC.out.mono ?_
    rintro e w5 ⟨rfl, hg5⟩
    have HB5 := hid (HB4.out.grown hg5 HB4.out.size (fun k e => by injection e with e; rw [← e]; exact HML.out))
    clear hg5
    go_wp2
    go_ret
    exact ⟨rfl, HB5.out⟩
end Go.Proofs.YtigdcgklpapfbaaGreatDoor.S10

