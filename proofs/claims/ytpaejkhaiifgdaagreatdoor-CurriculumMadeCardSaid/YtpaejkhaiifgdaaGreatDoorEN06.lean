/-
  Lists of curricula: Check of package entries, Valid of curriculum. Conditions: the curricula lie in memory.
  Read of curricula of the specification. Conditions: the records lie in memory, each text has at most 2097152 bytes.
  Single classes and pairs, as mathematics. No program.
  Whether two lists of strings are equal: the reference's SameStrings. Conditions: both lie in memory.
-/
import Derived.Test.YtpaejkhaiifgdaaGreatDoorGN01
import Derived.Test.YtpaejkhaiifgdaaGreatDoorGN02
import Derived.Test.YtpaejkhaiifgdaaGreatDoorGN03
import Derived.Test.YtpaejkhaiifgdaaGreatDoorGN04
import Derived.Test.YtpaejkhaiifgdaaGreatDoorGN05
import Derived.Test.YtpaejkhaiifgdaaGreatDoorGN06
import Derived.Test.YtpaejkhaiifgdaaGreatDoorGN07
import Derived.Test.YtpaejkhaiifgdaaGreatDoorGN08
import Derived.Test.YtpaejkhaiifgdaaGreatDoorGN09
import Derived.Test.YtpaejkhaiifgdaaGreatDoorGN10
import Derived.Test.YtpaejkhaiifgdaaGreatDoorGN11
import Derived.Test.YtpaejkhaiifgdaaGreatDoorGN12
import Derived.Test.YtpaejkhaiifgdaaGreatDoorGN13
import Derived.Test.YtpaejkhaiifgdaaGreatDoorGN14
import Derived.Test.YtpaejkhaiifgdaaGreatDoorGN15
import Derived.Test.YtpaejkhaiifgdaaGreatDoorGN16
import Derived.Test.YtpaejkhaiifgdaaGreatDoorGN17
import Derived.Test.YtpaejkhaiifgdaaGreatDoorGN18
import Derived.Test.YtpaejkhaiifgdaaGreatDoorEN01
import Derived.Test.YtpaejkhaiifgdaaGreatDoorEN02
import Derived.Test.YtpaejkhaiifgdaaGreatDoorEN03
import Derived.Test.YtpaejkhaiifgdaaGreatDoorEN04
import Derived.Test.YtpaejkhaiifgdaaGreatDoorEN05
import Derived.Test.YtpaejkhaiifgdaaGreatDoorProg
import Derived.WalkKit
import Derived.WalkSpells
import Derived.WalkLawsBesides
import Derived.Lib.Hide
import Derived.Deep.QuietTactic
import Derived.BigQuiet
import Derived.Laws.Rows
import Derived.OwnWalk
import Derived.Lib.BufferWrite
import Derived.Lib.UnsafeStr
import Derived.Laws.IdiomStrings
import Derived.Laws.BytesArg
import Derived.Laws.BytesString
import Derived.Laws.OwnMore
import Derived.Lib.IndexLaws
import Derived.Lib.ItoaNum
import Derived.Lib.Atoi
import Derived.Lib.Bytealg
import Derived.RangeFuncNested
import Derived.RangeFuncBound
import Derived.RangeFuncCalls
import Derived.RangeFuncLeaves
import Derived.Shelf.Abstract
import Derived.Shelf.RegionOpen
import Derived.OwnWalkIn
import Derived.Lib.SlTrimSet
import Derived.Shelf.Strings.Builder1
import Derived.Shelf.Strings.Builder2
import Derived.Shelf.Strings.OnBuilder
import Derived.Shelf.Strings.Trim
import Derived.Shelf.Small.Utf8
import Derived.Shelf.Small.Strs
import Derived.Shelf.Strings.BuilderF
import Derived.Shelf.Strings.BuilderK
import Derived.Shelf.Strings.Builder2Cap
import Derived.Shelf.Strconv.Atoi
import Derived.Shelf.Strconv.Itoa0
import Derived.Shelf.Strconv.Itoa1
import Derived.Shelf.LaysM
import Derived.Shelf.Strconv.Itoa2
import Derived.Shelf.Strconv.Itoa3
import Derived.Shelf.Strconv.AtoiErrFast
import Derived.Shelf.Strconv.ParseIntEmpty
import Derived.Shelf.Strconv.AtoiFail
import Derived.Shelf.Strconv.Clone
import Derived.Shelf.Strconv.SyntaxError
import Derived.Shelf.LaysC
import Derived.Shelf.Strconv.ToError
import Derived.Shelf.Strconv.AtoiErr
import Derived.Shelf.Strings.Search1
import Derived.Shelf.Strings.Search2
import Derived.Shelf.Strings.Search3
import Derived.Shelf.Strings.Cut
import Derived.Shelf.Strings.Shaped
import Derived.Shelf.Strings.Prefix
import Derived.Shelf.Strings.Runes
import Derived.Shelf.Strings.AsciiSet
import Derived.Shelf.Bits.Mul64
import Derived.Shelf.Strings.Repeat
import Derived.Shelf.Unicode.DecodeSlow
import Derived.Shelf.Strings.BuilderCap
import Derived.Shelf.Slices.Turned
import Derived.Shelf.Strings.SlTrimAscii
import Derived.Lib.AtoiErrMem
import Derived.Handy
import Derived.Laws.ResultCell
import Derived.RegionTactic
import Derived.Lib.Repeat
import Derived.Deep.RegionHeld3
import Derived.Lib.SlicesS
import Derived.TacticsInMore
import Derived.LoopNIn
import Derived.LoopIn
import Derived.Deep.RegionLaw
import Derived.Deep.DeepCutAuto
import Derived.Lib.Join
import Derived.Laws.Concat
import Derived.Maps.OwnSet
import Derived.Maps.Range
import Derived.StillTailTactics
import Derived.RangeFuncBox
import Derived.Deep.CutBlock
set_option linter.unusedVariables false
namespace Go.Proofs.YtpaejkhaiifgdaaGreatDoor.S11
open Go Go.Proofs Go.RowKit Go.Lib Go.Proofs.YtpaejkhaiifgdaaGreatDoor

theorem addK_ok {l : List Str} {c : Str} (hm : c ∉ l) (hl : l.length < 16) : addK 16 l c = (l ++ [c], 0) := by
  unfold addK; rw [if_neg hm, if_neg (by omega)]
theorem addK_dup {l : List Str} {c : Str} (hm : c ∈ l) : addK 16 l c = (l, 11) := if_pos hm
set_option maxHeartbeats 16000000 in
set_option maxRecDepth 100000 in
theorem chk_any (A : Option Addr) (l : List CurrD) (c KB AB MB M : Nat) (w : World) (h : CurrsIn w (fun k => k < M) A l) (hM : KMap w M []) (hEn : ∀ W, w.grownBy W (some M) → S3.Env W) (hC : CK KB AB MB M w) :
    Calls Tryz.prog 42 #[.slice A l.length c, .int .i64 16, .func (.func 43) #[] #[],
      .func (.func 57) #[] #[.pointer (some ⟨KB, 0, none⟩), .pointer (some ⟨AB, 0, none⟩), .pointer (some ⟨MB, 0, none⟩)]] w
      fun e w' => e = .returned (.int .i64 (if 16 < l.length then 2 else goU [] l)) ∧ w.grownBy w' (some M) := by
  have eg1 : ∀ args w, (callFunc 43 args).run Tryz.prog w = .ok (.enter 43 args) w := enters_of Tryz.func43 (by kernel_rfl) rfl
  have eg2 : ∀ args w, (callFunc 57 args).run Tryz.prog w = .ok (.enter 57 args) w := enters_of Tryz.func57 (by kernel_rfl) rfl
  obtain ⟨R, hR⟩ : ∃ R, (if 16 < l.length then 2 else goU [] l) = R := ⟨_, rfl⟩
  rw [hR]
  have hg0 : w.grownBy w (some M) := grown_none (below_grown (Below.refl _ w) (Nat.le_refl _))
  by_cases h32 : 16 < l.length
  · rw [if_pos h32] at hR
    subst hR
    have hz : (16 : Int) < (l.length : Int) := by omega
    have HG0 := hid hg0
    clear hg0 hC hM h hEn h32
    go_enter Tryz.func42, Tryz.ntmps42
    go_wp2
    go_ret
    exact ⟨rfl, HG0.out⟩
  · rw [if_neg h32] at hR
    have hz : ¬ (16 : Int) < (l.length : Int) := by omega
    have HR : Hid (goU (codesU (l.take 0)) (l.drop 0) = R) := hid hR
    have hENV := hid hEn
    have HM := hid hM
    have HC := hid hC
    have HH := hid h
    have HG0 := hid hg0
    have HMl := hid hM.lt
    clear hR hg0 hC hM h hEn
    go_enter Tryz.func42, Tryz.ntmps42
    go_wp2
    go_loopw [10, 11, 12, 19] (fun _ _ _ iv wr => ∃ i : Nat, iv = .int .i64 (i : Int) ∧ i ≤ l.length ∧ Hid (goU (codesU (l.take i)) (l.drop i) = R) ∧ Hid (KMap wr M (codesU (l.take i))) ∧ Hid (w.grownBy wr (some M))) (fun _ _ _ iv _ => l.length - (RowKit.intOf iv).toNat)
    case atStart => exact ⟨0, rfl, Nat.zero_le _, HR, hid HM.out, HG0⟩
    case round =>
      obtain ⟨i, rfl, hi, hE, hS, hK⟩ := hrel
      by_cases hlt : i < l.length
      · have hltz : (i : Int) < (l.length : Int) := by omega
        have hst := goU_step l i hlt
        rw [hE.out] at hst
        have hcl : (codesU (l.take i)).length = i := by simp [codesU]; omega
        have hCr := HC.out.grown hK.out
        obtain ⟨fb, fo, q, rfl, hfb, hri, y0, y1⟩ := (HH.out.kept (fun k hk => hK.out.block k (Nat.lt_trans hk HMl.out) (fun e => by injection e with e; omega))).at_ hlt
        have hadd : codesU (l.take (i + 1)) = codesU (l.take i) ++ [l[i].1] := by rw [List.take_succ_eq_append_getElem hlt]; unfold codesU; rw [List.map_append]; rfl
        have hMwr : M < wr.heap.size := Nat.lt_of_lt_of_le HMl.out hK.out.size
        have hb1 := (Below.refl wr.heap.size wr).alloc (Nat.le_refl _) (.cells #[.string (ba l[i].1), .slice q.1 l[i].2.length q.2] 41)
        have hX := Box2.new wr (.string (ba l[i].1)) (.slice q.1 l[i].2.length q.2)
        have hs1 : (wr.alloc (.cells #[.string (ba l[i].1), .slice q.1 l[i].2.length q.2] 41)).heap.size = wr.heap.size + 1 := by simp
        obtain ⟨w1, hw1⟩ : ∃ w1, wr.alloc (.cells #[.string (ba l[i].1), .slice q.1 l[i].2.length q.2] 41) = w1 := ⟨_, rfl⟩
        rw [hw1] at hb1 hX hs1
        have hg1 := grown_under hK.out hb1
        have hC1 := HC.out.grown hg1
        have hS1 := hS.out.below hb1
        have cC := ucheck_any l[i] q w1 ((hri.kept (fun k hk => hb1.block k (Nat.lt_trans hk hMwr))).mono (fun k hk => by have := hb1.size; omega)) (hENV.out w1 hg1)
        have hcode : currM l[i] = 0 → l[i].1.length ≤ 16 := fun h => S3.validC_len (currM_code h)
        unfold Says currV at cC
        obtain ⟨⟨code, ts⟩, hr⟩ : ∃ r, l[i] = r := ⟨_, rfl⟩
        rw [hr] at hst y0 y1 cC hadd hcode hX hw1
        dsimp only at hst y0 y1 cC hadd hX hw1
        obtain ⟨E, hE2⟩ : ∃ E, currM (code, ts) = E := ⟨_, rfl⟩
        rw [hE2] at cC hst hcode
        dsimp only at hcode
        obtain ⟨X1, hX1⟩ : ∃ X, ba code = X := ⟨_, rfl⟩
        obtain ⟨T1, hT1⟩ : ∃ F, ts.length = F := ⟨_, rfl⟩
        rw [hX1] at y0 cC hX hw1
        rw [hT1] at y1 cC hX hw1
        have hX1l : lst X1 = code := by rw [← hX1]; rfl
        have HXL := hid hX1l
        have HST := hid hst
        have HADD := hid hadd
        have HCODE := hid hcode
        have HCL := hid hcl
        have HW1 := hid hw1
        have HX := hid hX
        have HC1 := hid hC1
        have HG1 := hid hg1
        have HS1 := hid hS1
        have HZ1 := hid hs1
        have CC := hid cC
        clear hr hE2 hX1 hT1 hX1l hst hadd hcode hcl hw1 hX hC1 hg1 hS1 hs1 cC hri hfb hE hK hS hb1 hCr hMwr
        by_cases hE0 : E = 0
        · subst hE0
          have hst := HST.out
          rw [if_neg (by simp)] at hst
          have hcl16 := HCODE.out rfl
          by_cases hm : code ∈ codesU (l.take i)
          · rw [if_pos hm] at hst
            have HRR := hid hst
            clear hst
            go_wp2_with fail
            rw [HW1.out]
            refine CC.out.mono ?_
            rintro e w2 ⟨rfl, hb2⟩
            have hX2 := HX.out.next hb2
            have hS2 := HS1.out.below hb2
            have hg2 := grown_under HG1.out hb2
            have hC2 := HC.out.grown hg2
            obtain ⟨z0, z1⟩ := hX2.cells
            have cA := dist_any KB AB MB M (codesU (l.take i)) X1 q.1 T1 q.2 (by rw [HCL.out]; omega) (by rw [Lib.size_eq]; show (lst X1).length ≤ maxLen; rw [HXL.out]; unfold maxLen; omega) w2 hC2.d hS2
            unfold AddOutK at cA
            rw [HXL.out, addK_dup hm] at cA
            dsimp only at cA
            have CA := hid cA
            have HG2 := hid hg2
            clear cA hC2 hS2 hX2 hb2 hg2 hm
            go_wp2_with fail
            refine CA.out.mono ?_
            rintro e w3 ⟨rfl, hS3, hg3⟩
            have HG3 := hid (HG2.out.andThen hg3 (fun j hj => .inr hj))
            clear hg3 hS3
            go_wp2
            go_ret
            rw [HRR.out]
            exact ⟨rfl, HG3.out⟩
          · rw [if_neg hm] at hst
            have HRR := hid hst
            clear hst
            go_wp2_with fail
            rw [HW1.out]
            refine CC.out.mono ?_
            rintro e w2 ⟨rfl, hb2⟩
            have hX2 := HX.out.next hb2
            have hS2 := HS1.out.below hb2
            have hg2 := grown_under HG1.out hb2
            have hC2 := HC.out.grown hg2
            obtain ⟨z0, z1⟩ := hX2.cells
            have cA := dist_any KB AB MB M (codesU (l.take i)) X1 q.1 T1 q.2 (by rw [HCL.out]; omega) (by rw [Lib.size_eq]; show (lst X1).length ≤ maxLen; rw [HXL.out]; unfold maxLen; omega) w2 hC2.d hS2
            unfold AddOutK at cA
            rw [HXL.out, addK_ok hm (by rw [HCL.out]; omega)] at cA
            dsimp only at cA
            rw [← HADD.out] at cA
            have CA := hid cA
            have HG2 := hid hg2
            clear cA hC2 hS2 hX2 hb2 hg2 hm
            go_wp2_with fail
            refine CA.out.mono ?_
            rintro e w3 ⟨rfl, hS3, hg3⟩
            have HG3 := hid (HG2.out.andThen hg3 (fun j hj => .inr hj))
            have HS3 := hid hS3
            clear hg3 hS3
            go_wp2
            go_roundw
            case rel => exact ⟨i + 1, by go_num, by omega, hid HRR.out.symm, hid HS3.out, hid HG3.out⟩
            case measure => simp [RowKit.intOf]; omega
        · have hst := HST.out
          rw [if_pos hE0] at hst
          have HRR := hid hst
          have hE0' : (E != 0) = true := by simpa using hE0
          have hE0'' : (E == 0) = false := by simpa using hE0
          clear hst
          go_wp2_with fail
          rw [HW1.out]
          refine CC.out.mono ?_
          rintro e w2 ⟨rfl, hb2⟩
          have HG2 := hid (grown_under HG1.out hb2)
          clear hb2
          go_wp2
          go_ret
          rw [HRR.out]
          exact ⟨rfl, HG2.out⟩
      · have hltz : ¬ (i : Int) < (l.length : Int) := by omega
        have hn : Hid (R = 0) := hid (by rw [← hE.out, List.drop_of_length_le (by omega)]; rfl)
        go_wp2
        go_ret
        rw [hn.out]
        exact ⟨rfl, hK.out⟩


set_option maxHeartbeats 16000000 in
set_option maxRecDepth 100000 in
theorem uvalid_any (A : Option Addr) (l : List CurrD) (c : Nat) (w : World) (h : CurrsIn w (fun k => k < w.heap.size) A l) (hE : S3.Env w) :
    Calls Tryz.prog 15 #[.slice A l.length c] w (Says (.int .i64 (validU l)) w) := by
  unfold Says
  have hR : validU l = if 16 < l.length then 2 else goU [] l := rfl
  obtain ⟨R, hR'⟩ : ∃ R, validU l = R := ⟨_, rfl⟩
  rw [hR']
  rw [hR'] at hR
  have HR := hid hR
  have HH := hid h
  have HE := hid hE
  clear hR hR' h hE
  go_enter Tryz.func15, Tryz.ntmps15
  go_wp2_with fail
  refine (distinct_any w).mono ?_
  rintro e w4 ⟨KB, AB, MB, M, rfl, hD, hM, hM4, k1, k2, k3, hb4⟩
  have hc := chk_any A l c KB AB MB M w4 ((HH.out.kept (fun k hk => hb4.block k hk)).mono (fun k hk => by omega)) hM (fun W hW => HE.out.below (hb4.grown hW hb4.size (fun k e => by injection e with e; rw [← e]; exact hM4))) ⟨hD, k1, k2, k3⟩
  rw [← HR.out] at hc
  have HC := hid hc
  have HB4 := hid hb4
  have HM4 := hid hM4
  clear hc hD hM hM4 k1 k2 k3 hb4
  go_wp2_with fail
  refine HC.out.mono ?_
  rintro e w5 ⟨rfl, hg5⟩
  have HB5 := hid (HB4.out.grown hg5 HB4.out.size (fun k e => by injection e with e; rw [← e]; exact HM4.out))
  clear hg5
  go_wp2
  go_ret
  exact ⟨rfl, HB5.out⟩
end Go.Proofs.YtpaejkhaiifgdaaGreatDoor.S11

set_option linter.unusedVariables false
namespace Go.Proofs.YtpaejkhaiifgdaaGreatDoor.S11
open Go Go.Proofs Go.RowKit Go.Lib Go.Proofs.YtpaejkhaiifgdaaGreatDoor

theorem infoI : (Tryz.prog.info? 3).map (fun i => (i.zero, i.size, i.bytes)) = some (some (.int .i64 0), 1, 8) := by kernel_rfl
/-- What stands while records are read: the curricula, their lines, the problems. -/
structure RInvU (w : World) (rs : List CurrD) (ps : List ProbD) (v1 v3 v2 : Value) (n3 : Nat) (W : World) : Prop where
  row : ∃ Lr : List (CurrD × CurrA), Lr.map (·.1) = rs ∧ W.ownsRow w.heap.size 41 2 v1 Lr.length (currVals Lr) ∧ ∀ p ∈ Lr, CurrIn W (fun k => w.heap.size ≤ k ∧ k < W.heap.size ∧ some k ≠ v1.ownBlock ∧ some k ≠ v2.ownBlock ∧ some k ≠ v3.ownBlock) p.1 p.2
  lines : ∃ xs, W.ownsRow w.heap.size 3 1 v3 n3 xs
  probs : ProbsRow W w.heap.size v2 ps
  below : Below w.heap.size w W
theorem RInvU.start (w : World) : RInvU w [] [] (.slice none 0 0) (.slice none 0 0) (.slice none 0 0) 0 w :=
  ⟨⟨[], rfl, World.ownsRow_nil _ _ _ _, fun p hp => by simp at hp⟩, ⟨[], World.ownsRow_nil _ _ _ _⟩, World.ownsRow_nil _ _ _ _, Below.refl _ _⟩
section
variable {w W W' : World} {rs : List CurrD} {ps : List ProbD} {v1 v2 v3 : Value} {n3 : Nat}
theorem RInvU.under (h : RInvU w rs ps v1 v3 v2 n3 W) (hb : Below W.heap.size W W') : RInvU w rs ps v1 v3 v2 n3 W' := by
  obtain ⟨⟨Lr, hL, ho, hr⟩, ⟨xs, hx⟩, hp, h3⟩ := h
  exact ⟨⟨Lr, hL, S3.row_under ho hb, fun p hp' => ((hr p hp').kept (fun k hk => hb.block k hk.2.1)).mono (fun k hk => ⟨hk.1, Nat.lt_of_lt_of_le hk.2.1 hb.size, hk.2.2⟩)⟩, ⟨xs, S3.row_under hx hb⟩, S3.row_under hp hb, h3.trans (hb.mono h3.size)⟩
theorem still_ne {v v' : Value} (hat : v'.ownBlock = v.ownBlock ∨ ∃ k, v'.ownBlock = some k ∧ W.heap.size ≤ k) {k : Nat} (hk : k < W.heap.size) (h : some k ≠ v.ownBlock) : some k ≠ v'.ownBlock := by
  rcases hat with e | ⟨j, e, hj⟩
  · rw [e]; exact h
  · rw [e]; intro e0; injection e0 with e0; omega
theorem RInvU.prob {v2' : Value} {p : ProbD} (h : RInvU w rs ps v1 v3 v2 n3 W) (hown : ProbsRow W' w.heap.size v2' (ps ++ [p])) (hg : W.grownBy W' v2.ownBlock) (hat : v2'.ownBlock = v2.ownBlock ∨ ∃ k, v2'.ownBlock = some k ∧ W.heap.size ≤ k) : RInvU w rs (ps ++ [p]) v1 v3 v2' n3 W' := by
  obtain ⟨⟨Lr, hL, ho, hr⟩, ⟨xs, hx⟩, hp, hb⟩ := h
  have hs := hg.size
  have hbs := hb.size
  exact ⟨⟨Lr, hL, World.ownsRow.kept ho hg (kinds_ne ho hp (by decide)), fun p hp' => ((hr p hp').kept (fun k hk => hg.block k hk.2.1 hk.2.2.2.1)).mono (fun k hk => ⟨hk.1, by omega, hk.2.2.1, still_ne hat hk.2.1 hk.2.2.2.1, hk.2.2.2.2⟩)⟩,
    ⟨xs, World.ownsRow.kept hx hg (kinds_ne hx hp (by decide))⟩, hown, hb.grown hg (by omega) (fun k e => (own_lt hp k e).1)⟩
theorem RInvU.line {v3' : Value} {m3 : Nat} {ys : List Value} (h : RInvU w rs ps v1 v3 v2 n3 W) (hown : W'.ownsRow w.heap.size 3 1 v3' m3 ys) (hg : W.grownBy W' v3.ownBlock) (hat : v3'.ownBlock = v3.ownBlock ∨ ∃ k, v3'.ownBlock = some k ∧ W.heap.size ≤ k) : RInvU w rs ps v1 v3' v2 m3 W' := by
  obtain ⟨⟨Lr, hL, ho, hr⟩, ⟨xs, hx⟩, hp, hb⟩ := h
  have hs := hg.size
  have hbs := hb.size
  exact ⟨⟨Lr, hL, World.ownsRow.kept ho hg (kinds_ne ho hx (by decide)), fun p hp' => ((hr p hp').kept (fun k hk => hg.block k hk.2.1 hk.2.2.2.2)).mono (fun k hk => ⟨hk.1, by omega, hk.2.2.1, hk.2.2.2.1, still_ne hat hk.2.1 hk.2.2.2.2⟩)⟩,
    ⟨ys, hown⟩, World.ownsRow.kept hp hg (kinds_ne hp hx (by decide)), hb.grown hg (by omega) (fun k e => (own_lt hx k e).1)⟩
theorem RInvU.room {v1' : Value} {r : CurrD} {q : CurrA} {C : Nat} (h : RInvU w rs ps v1 v3 v2 n3 W)
    (hr' : CurrIn W (fun k => C ≤ k ∧ k < W.heap.size) r q) (hC : w.heap.size ≤ C) (h1 : ∀ k, v1.ownBlock = some k → k < C) (h2 : ∀ k, v2.ownBlock = some k → k < C) (h3 : ∀ k, v3.ownBlock = some k → k < C)
    {Lr : List (CurrD × CurrA)} (hL : Lr.map (·.1) = rs) (ho : W.ownsRow w.heap.size 41 2 v1 Lr.length (currVals Lr)) (hr : ∀ p ∈ Lr, CurrIn W (fun k => w.heap.size ≤ k ∧ k < W.heap.size ∧ some k ≠ v1.ownBlock ∧ some k ≠ v2.ownBlock ∧ some k ≠ v3.ownBlock) p.1 p.2)
    (hown : W'.ownsRow w.heap.size 41 2 v1' (Lr.length + 1) (currVals Lr ++ currVs r q))
    (hg : W.grownBy W' v1.ownBlock) (hat : v1'.ownBlock = v1.ownBlock ∨ ∃ k, v1'.ownBlock = some k ∧ W.heap.size ≤ k) : RInvU w (rs ++ [r]) ps v1' v3 v2 n3 W' := by
  obtain ⟨_, ⟨xs, hx⟩, hp, hb⟩ := h
  have hs := hg.size
  have hbs := hb.size
  refine ⟨⟨Lr ++ [(r, q)], by rw [List.map_append, hL]; rfl, ?_, fun p hp' => ?_⟩, ⟨xs, World.ownsRow.kept hx hg (kinds_ne hx ho (by decide))⟩, World.ownsRow.kept hp hg (kinds_ne hp ho (by decide)), hb.grown hg (by omega) (fun k e => (own_lt ho k e).1)⟩
  · rw [currVals_app, List.length_append, List.length_singleton]
    simpa [currVals] using hown
  · rcases List.mem_append.1 hp' with hp' | hp'
    · exact ((hr p hp').kept (fun k hk => hg.block k hk.2.1 hk.2.2.1)).mono (fun k hk => ⟨hk.1, by omega, still_ne hat hk.2.1 hk.2.2.1, hk.2.2.2⟩)
    · rw [List.mem_singleton] at hp'
      subst hp'
      have k1 : ∀ k, C ≤ k → some k ≠ v1.ownBlock := fun k hk e => by have := h1 k e.symm; omega
      have k2 : ∀ k, C ≤ k → some k ≠ v2.ownBlock := fun k hk e => by have := h2 k e.symm; omega
      have k3 : ∀ k, C ≤ k → some k ≠ v3.ownBlock := fun k hk e => by have := h3 k e.symm; omega
      exact (hr'.kept (fun k hk => hg.block k hk.2 (k1 k hk.1))).mono (fun k hk => ⟨by omega, by omega, still_ne hat hk.2 (k1 k hk.1), k2 k hk.1, k3 k hk.1⟩)
theorem RInvU.rooms {A1 : Option Addr} {n1 c1 : Nat} (h : RInvU w rs ps (.slice A1 n1 c1) v3 v2 n3 W) : n1 = rs.length ∧ CurrsIn W (fun k => k < W.heap.size) A1 rs := by
  obtain ⟨⟨Lr, hL, ho, hr⟩, _, hp, hb⟩ := h
  have hl : Lr.length = rs.length := by rw [← hL, List.length_map]
  rw [hl] at ho
  obtain ⟨A, c, hv, _, _, hin⟩ := CurrRow.currsIn (P := fun k => k < W.heap.size) ⟨Lr, hL, ho, fun p hp => (hr p hp).mono (fun k hk => hk.2.1)⟩
  injection hv with e1 e2 _
  subst e1
  exact ⟨e2, hin.mono (fun k hk => by rcases hk with h | h; exact h; exact h.2)⟩
end
/-- A record of the list, and that nothing that was there has turned. -/
structure TGU (wo : World) (bp op : Nat) (line : Int) (v : Value) (w : World) : Prop where
  c0 : w.cell? ⟨bp, op, none⟩ = some (.int .i64 line)
  c1 : w.cell? ⟨bp, op + 1, none⟩ = some v
  o : Below wo.heap.size wo w
  z : bp < wo.heap.size
theorem TGU.next {wo w w' : World} {line : Int} {bp op : Nat} {v : Value} (h : TGU wo bp op line v w) (q : Below w.heap.size w w') : TGU wo bp op line v w' :=
  have k := q.mono h.o.size
  ⟨(k.cell (p := ⟨bp, op, none⟩) h.z).trans h.c0, (k.cell (p := ⟨bp, op + 1, none⟩) h.z).trans h.c1, h.o.trans k, h.z⟩
theorem two_cells (w : World) (v0 v1 : Value) : ∀ (j : Nat) (u : Value), [v0, v1][j]? = some u → (w.alloc (.cells #[v0, v1] 41)).cell? ((⟨w.heap.size, 0, none⟩ : Addr).add j) = some u := by
  intro j u h
  obtain ⟨k0, k1⟩ := (Box2.new w v0 v1).cells
  rw [Addr.add_lit]
  match j, h with
  | 0, h => exact k0.trans h
  | 1, h => exact k1.trans h
  | j + 2, h => simp at h
theorem one_cell (w : World) (v : Value) (T : TypeId) : ∀ (j : Nat) (u : Value), [v][j]? = some u → (w.alloc (.cells #[v] T)).cell? ((⟨w.heap.size, 0, none⟩ : Addr).add j) = some u := by
  intro j u h
  rw [Addr.add_lit, Lib.cell_of_heap (heap_alloc_new w _)]
  match j, h with
  | 0, h => simpa using h
  | j + 1, h => simp at h
set_option maxHeartbeats 16000000 in
set_option maxRecDepth 100000 in
theorem rlines_any (A : Option Addr) (l : List RecD) (c : Nat) (w : World) (h : RecsIn w (fun k => k < w.heap.size) A l) (hl : l.length ≤ 1073741824)
    (hsz : ∀ x ∈ l, ∀ f ∈ x.2, f.1.length ≤ 2097152) :
    Calls Tryz.prog 39 #[.slice A l.length c] w fun e w' =>
      ∃ v1 v3 v2, e = .returned (.tuple #[v1, v3, v2]) ∧ CurrRow w' w.heap.size (fun k => w.heap.size ≤ k ∧ k < w'.heap.size) v1 (recsM l).1 ∧ ProbsRow w' w.heap.size v2 (recsM l).2 ∧ Below w.heap.size w w' := by
  obtain ⟨i4, hi4, hz4, hs4, hb4⟩ := info_parts infoProb
  obtain ⟨i5, hi5, hz5, hs5, hb5⟩ := info_parts infoCurr
  obtain ⟨i3, hi3, hz3, hs3, hb3⟩ := info_parts infoI
  have HH := hid h
  have HSZ := hid hsz
  clear h hsz
  go_enter Tryz.func39, Tryz.ntmps39
  go_wp2
  go_loopw [5, 6, 7, 8] (fun v1 v3 v2 iv wr => ∃ (i : Nat) (A1 : Option Addr) (n1 c1 : Nat) (A3 : Option Addr) (n3 c3 : Nat) (A2 : Option Addr) (n2 c2 : Nat), v1 = .slice A1 n1 c1 ∧ v3 = .slice A3 n3 c3 ∧ v2 = .slice A2 n2 c2 ∧ iv = .int .i64 (i : Int) ∧ i ≤ l.length ∧ n3 ≤ i ∧ Hid (RInvU w (recsM (l.take i)).1 (recsM (l.take i)).2 (.slice A1 n1 c1) (.slice A3 n3 c3) (.slice A2 n2 c2) n3 wr)) (fun _ _ _ iv _ => l.length - (RowKit.intOf iv).toNat)
  case atStart => exact ⟨0, none, 0, 0, none, 0, 0, none, 0, 0, rfl, rfl, rfl, rfl, Nat.zero_le _, Nat.le_refl _, hid (RInvU.start w)⟩
  case round =>
    obtain ⟨i, A1, n1, c1, A3, n3, c3, A2, n2, c2, rfl, rfl, rfl, rfl, hi, hn3, hI⟩ := hrel
    by_cases hlt : i < l.length
    · have hltz : (i : Int) < (l.length : Int) := by omega
      have hwz := hI.out.below.size
      have hbw : Below w.heap.size w wr := hI.out.below
      obtain ⟨fb, fo, A', c', rfl, hfb, hfi, hc1, hc2, y0, y1⟩ := (HH.out.below hbw).at_ hlt
      have hst := recsM_take l i hlt
      have hrl := recsM_len (l.take i)
      have hpl := recsM_probs (l.take i)
      rw [List.length_take] at hpl
      have hszi := HSZ.out _ (List.getElem_mem hlt)
      obtain ⟨⟨rs, ps⟩, hst0⟩ : ∃ S, recsM (l.take i) = S := ⟨_, rfl⟩
      rw [hst0] at hst hrl hpl hI
      obtain ⟨⟨line, fs⟩, hx⟩ : ∃ X, l[i] = X := ⟨_, rfl⟩
      rw [hx] at hfi hc1 y0 y1 hst hszi
      dsimp only at hfi hc1 y0 y1 hst hszi hrl hpl hI
      obtain ⟨F, hF⟩ : ∃ F, fs.length = F := ⟨_, rfl⟩
      rw [hF] at hc1 y1
      have hrr := hI.out.rooms
      have hn1 := hrr.1
      have hlt1 : ∀ k, (Value.slice A1 n1 c1).ownBlock = some k → k < wr.heap.size := fun k e => by obtain ⟨Lr, _, ho, _⟩ := hI.out.row; exact (own_lt ho k e).2
      have hlt2 : ∀ k, (Value.slice A2 n2 c2).ownBlock = some k → k < wr.heap.size := fun k e => (own_lt hI.out.probs k e).2
      have hlt3 : ∀ k, (Value.slice A3 n3 c3).ownBlock = some k → k < wr.heap.size := fun k e => by obtain ⟨xs, ho⟩ := hI.out.lines; exact (own_lt ho k e).2
      have cR := one_any line A' fs c' A1 rs c1 wr (hfi.mono (fun k hk => Nat.lt_of_lt_of_le hk hbw.size)) hrr.2 hrl hszi
      rw [hF, ← hn1] at cR
      unfold CurrOut at cR
      have CR := hid cR
      have hts : TGU wr fb (fo + i * 2) line (.slice A' F c') wr := ⟨y0, y1, Below.refl _ _, Nat.lt_of_lt_of_le hfb hbw.size⟩
      have HTS := hid hts
      have HST := hid hst
      have HFI := hid hfi
      have HF := hid hF
      have HL1 := hid hlt1
      have HL2 := hid hlt2
      have HL3 := hid hlt3
      have hd : decide (l.length ≤ i) = false := decide_eq_false (by omega)
      have HBW := hid hbw
      have hrl16 : n1 ≤ 16 := by omega
      have HN1 := hid hn1
      clear hst hst0 hx hfi hszi hF hn1 hlt1 hlt2 hlt3 hts hbw cR hrr
      go_wp2_with fail
      refine CR.out.mono ?_
      rintro e w2 ⟨⟨r, q, k, e0, rfl, hone, hin⟩, hb2⟩
      have HONE := hid hone
      have HIN := hid hin
      have HT2 := hid (HTS.out.next hb2)
      have HI2 := hid (hI.out.under hb2)
      have HB2 := hid hb2
      unfold currV
      clear hone hin hb2 CR y0 y1
      obtain ⟨X0, hX0⟩ : ∃ X, ba r.1 = X := ⟨_, rfl⟩
      obtain ⟨m1, hm1⟩ : ∃ m, r.2.length = m := ⟨_, rfl⟩
      have hvs : currVs r q = [.string X0, .slice q.1 m1 q.2] := by unfold currVs; rw [hX0, hm1]
      have HVS := hid hvs
      rw [hX0, hm1]
      clear hX0 hm1 hvs
      have hb3 := (Below.refl w2.heap.size w2).alloc (Nat.le_refl _) (.cells #[.string X0, .slice q.1 m1 q.2] 41)
      have HX3 := hid (Box2.new w2 (.string X0) (.slice q.1 m1 q.2))
      have HT3 := hid (HT2.out.next hb3)
      have HI3 := hid (HI2.out.under hb3)
      have HIN3 : Hid (e0 = 0 → CurrIn (w2.alloc (.cells #[.string X0, .slice q.1 m1 q.2] 41)) (fun k => wr.heap.size ≤ k ∧ k < (w2.alloc (.cells #[.string X0, .slice q.1 m1 q.2] 41)).heap.size) r q) := hid (fun h0 => ((HIN.out h0).kept (fun k hk => hb3.block k hk.2)).mono (fun k hk => ⟨hk.1, Nat.lt_of_lt_of_le hk.2 hb3.size⟩))
      clear hb3
      go_upto_region 8 with fail
      generalize w2.heap.size = T at HX3 ⊢
      generalize w2.alloc (.cells #[.string X0, .slice q.1 m1 q.2] 41) = w3 at HX3 HT3 HI3 HIN3 ⊢
      clear HT2 HI2 HIN
      by_cases he : e0 = 0
      · subst he
        have hrec : ∀ ps, recM (rs, ps) (line, fs) = (rs ++ [r], ps) := by
          rcases HONE.out with ⟨h, _⟩ | ⟨h, _⟩ | ⟨_, h⟩
          · exact absurd rfl h
          · exact absurd rfl h
          · exact h
        have HSTF : Hid (recsM (l.take (i + 1)) = (rs ++ [r], ps)) := hid (by rw [HST.out, hrec])
        have HINR := hid (HIN3.out rfl)
        obtain ⟨Lr0, hL0, ho0, hr0⟩ := HI3.out.row
        have hl0 : Lr0.length = n1 := by rw [HN1.out, ← hL0, List.length_map]
        rw [hl0] at ho0
        have HO0 := hid ho0
        have HL0 := hid hL0
        have HLL0 := hid hl0
        have HRR := hid hr0
        have HMX : Hid (n1 + 1 ≤ maxLen) := hid (by unfold maxLen; omega)
        have HBY : Hid ((n1 + 1) * 40 ≤ 140737488355328) := hid (by omega)
        have HN5 : Hid (∀ (j : Nat) (u : Value), [Value.string X0, .slice q.1 m1 q.2][j]? = some u → (w3.alloc (.cells #[.string X0, .slice q.1 m1 q.2] 41)).cell? ((⟨w3.heap.size, 0, none⟩ : Addr).add j) = some u) := hid (two_cells w3 _ _)
        have HON : Hid (∀ u ∈ [Value.string X0, .slice q.1 m1 q.2], u.oneCell' = true) := hid (by rw [← HVS.out]; exact curr_one r q)
        have hwc := HI3.out.below.size
        have HW4S : Hid (w.heap.size ≤ (w3.alloc (.cells #[.string X0, .slice q.1 m1 q.2] 41)).heap.size) := hid (by simp; omega)
        have hoc := HT3.out.o.size
        obtain ⟨z0, z1⟩ := HX3.out.cells
        clear hrec hL0 ho0 hr0 hl0
        go_wp2_with (at_builtin; refine wpList_append_own_at _ rfl _ _ 22 rfl w.heap.size 41 i5 (.agg #[.string ⟨#[]⟩, .slice none 0 0]) 2 40 Tryz.underlying22 hi5 hz5 hs5 hb5 rfl (by decide) _ n1 (currVals Lr0) rfl (World.ownsRow.alloc HO0.out _) ⟨w3.heap.size, 0, none⟩ 1 1 [Value.string X0, .slice q.1 m1 q.2] rfl rfl HN5.out HON.out HMX.out HBY.out HW4S.out ?_)
        intro v' w5 hown' hgrow hnil hat
        obtain ⟨g', cap', rfl⟩ := ownsRow_succ (k := n1) hown'
        rw [← HVS.out] at hown'
        have hI5 := RInvU.room (C := wr.heap.size) HI3.out HINR.out hwz HL1.out HL2.out HL3.out HL0.out (by rw [HLL0.out]; exact HO0.out) HRR.out (v1' := .slice (some ⟨g', 0, none⟩) (n1 + 1) cap') (by rw [HLL0.out]; exact hown') (grownBy_of_alloc hgrow) (hat.imp id (fun h => ⟨_, h, by simp⟩))
        have HI5 := hid hI5
        have hg5 := grownBy_of_alloc hgrow
        have HT5 : Hid (w5.cell? ⟨fb, fo + i * 2, none⟩ = some (.int .i64 line)) := hid (by
          have hk := hg5.block fb (Nat.lt_of_lt_of_le HT3.out.z HT3.out.o.size) (fun e => by have := (own_lt HO0.out fb e.symm).1; omega)
          exact (World.cell?_of_block (w := w3) hk).trans HT3.out.c0)
        obtain ⟨xs3, ho3⟩ := hI5.lines
        have HO3 := hid ho3
        have HMX3 : Hid (n3 + 1 ≤ maxLen) := hid (by unfold maxLen; omega)
        have HBY3 : Hid ((n3 + 1) * 8 ≤ 140737488355328) := hid (by omega)
        have HN6 : Hid (∀ (j : Nat) (u : Value), [Value.int .i64 line][j]? = some u → (w5.alloc (.cells #[.int .i64 line] 3)).cell? ((⟨w5.heap.size, 0, none⟩ : Addr).add j) = some u) := hid (one_cell w5 _ 3)
        have HON6 : Hid (∀ u ∈ [Value.int .i64 line], u.oneCell' = true) := hid (by intro u hu; rw [List.mem_singleton] at hu; subst hu; rfl)
        have hw5 := hI5.below.size
        have HW6S : Hid (w.heap.size ≤ (w5.alloc (.cells #[.int .i64 line] 3)).heap.size) := hid (by simp; omega)
        have y0 := HT5.out
        clear hI5 hown' hgrow hnil hat z0 z1 hg5 ho3
        go_wp2_with (at_builtin; refine wpList_append_own_at _ rfl _ _ 47 rfl w.heap.size 3 i3 (.int .i64 0) 1 8 Tryz.underlying47 hi3 hz3 hs3 hb3 rfl (by decide) _ n3 xs3 rfl (World.ownsRow.alloc HO3.out _) ⟨w5.heap.size, 0, none⟩ 1 1 [Value.int .i64 line] rfl rfl HN6.out HON6.out HMX3.out HBY3.out HW6S.out ?_)
        intro v' w6 hown' hgrow hnil hat
        obtain ⟨g6, cap6, rfl⟩ := ownsRow_succ (k := n3) hown'
        have hI6 := RInvU.line HI5.out hown' (grownBy_of_alloc hgrow) (hat.imp id (fun h => ⟨_, h, by simp⟩))
        have HI6 : Hid (RInvU w (recsM (l.take (i + 1))).1 (recsM (l.take (i + 1))).2 (.slice (some ⟨g', 0, none⟩) (n1 + 1) cap') (.slice (some ⟨g6, 0, none⟩) (n3 + 1) cap6) (.slice A2 n2 c2) (n3 + 1) w6) := hid (by rw [HSTF.out]; exact hI6)
        clear hI6 hown' hgrow hnil hat y0
        go_wp2_with fail
        go_roundw
        case rel => exact ⟨i + 1, _, _, _, _, _, _, _, _, _, rfl, rfl, rfl, by go_num, by omega, by omega, HI6⟩
        case measure => simp [RowKit.intOf]; omega
      · have hne : (e0 != 0) = true := by simpa using he
        obtain ⟨col, hfd, hrec⟩ : ∃ col, Calls Tryz.prog 59 #[.agg #[.int .i64 line, .slice A' F c'], .int .i64 k, .int .i64 e0] w3 (FoundOut (.agg #[.int .i64 0, .int .i64 line, .int .i64 col, .int .i64 e0]) w3) ∧ ∀ ps, recM (rs, ps) (line, fs) = (rs, ps ++ [(line, col, e0)]) := by
          rcases HONE.out with ⟨_, rfl, h⟩ | ⟨_, ⟨j, hj, hj5, rfl, h⟩⟩ | ⟨h, _⟩
          · exact ⟨0, foundW_any line e0 A' F c' w3, h⟩
          · refine ⟨fs[j].2.1, ?_, h⟩
            have hz2 := HBW.out.size
            have hz3 := HT3.out.o.size
            have h' := foundA_any line e0 j A' fs c' w3 ((HFI.out.below (HT3.out.o.mono hz2)).mono (fun k hk => by omega)) hj hj5
            rw [HF.out] at h'
            exact h'
          · exact absurd h he
        have HSTF : Hid (recsM (l.take (i + 1)) = (rs, ps ++ [(line, col, e0)])) := hid (by rw [HST.out, hrec])
        have HFD := hid hfd
        have y0 := HT3.out.c0
        have y1 := HT3.out.c1
        have hpz : ps.length = n2 := by
          rcases HI3.out.probs.2 with ⟨hv, h0⟩ | ⟨g, cap, cur, hv, _⟩
          · injection hv with _ h1 _; omega
          · injection hv with _ h1 _; omega
        have hn2 : n2 ≤ 1073741824 := by omega
        have HPZ := hid hpz
        clear hfd hrec hpz he
        go_wp2_with fail
        refine HFD.out.mono ?_
        rintro e w4 ⟨rfl, hb4⟩
        have hI4 := HI3.out.under hb4
        have HI4 := hid hI4
        have HMX : Hid (n2 + 1 ≤ maxLen) := hid (by unfold maxLen; omega)
        have HBY : Hid ((n2 + 1) * 32 ≤ 140737488355328) := hid (by omega)
        have hprow : ProbsRow w4 w.heap.size (.slice A2 n2 c2) ps := hI4.probs
        unfold ProbsRow at hprow
        rw [HPZ.out] at hprow
        have HPR := hid hprow
        have HN4 : Hid (∀ (j : Nat) (u : Value), (probVs (line, col, e0))[j]? = some u → (w4.alloc (.cells #[.int .i64 0, .int .i64 line, .int .i64 col, .int .i64 e0] 86)).cell? ((⟨w4.heap.size, 0, none⟩ : Addr).add j) = some u) := hid (four_new w4 0 line col e0 86)
        have HON : Hid (∀ u ∈ probVs (line, col, e0), u.oneCell' = true) := hid (times_one (0, line, col, e0))
        have hw4 := hI4.below.size
        have HW3S : Hid (w.heap.size ≤ (w4.alloc (.cells #[.int .i64 0, .int .i64 line, .int .i64 col, .int .i64 e0] 86)).heap.size) := hid (by simp; omega)
        clear hprow hI4 hb4 y0 y1
        go_wp2_with (at_builtin; refine wpList_append_own_at _ rfl _ _ 33 rfl w.heap.size 86 i4 (.agg #[.int .i64 0, .int .i64 0, .int .i64 0, .int .i64 0]) 4 32 Tryz.underlying33 hi4 hz4 hs4 hb4 rfl (by decide) _ n2 (probVals ps) rfl (World.ownsRow.alloc HPR.out _) ⟨w4.heap.size, 0, none⟩ 1 1 (probVs (line, col, e0)) rfl rfl HN4.out HON.out HMX.out HBY.out HW3S.out ?_)
        intro v' w5 hown' hgrow hnil hat
        obtain ⟨g', cap', rfl⟩ := ownsRow_succ (k := n2) hown'
        have hI5 := HI4.out.prob (p := (line, col, e0)) (v2' := .slice (some ⟨g', 0, none⟩) (n2 + 1) cap') (by unfold ProbsRow; rw [probVals_app, List.length_append, HPZ.out]; simpa [probVals] using hown') (grownBy_of_alloc hgrow) (hat.imp id (fun h => ⟨_, h, by simp⟩))
        have HI5 : Hid (RInvU w (recsM (l.take (i + 1))).1 (recsM (l.take (i + 1))).2 (.slice A1 n1 c1) (.slice A3 n3 c3) (.slice (some ⟨g', 0, none⟩) (n2 + 1) cap') n3 w5) := hid (by rw [HSTF.out]; exact hI5)
        clear hI5 hown' hgrow hnil hat
        go_wp2_with fail
        go_roundw
        case rel => exact ⟨i + 1, _, _, _, _, _, _, _, _, _, rfl, rfl, rfl, by go_num, by omega, by omega, HI5⟩
        case measure => simp [RowKit.intOf]; omega
    · have hltz : ¬ (i : Int) < (l.length : Int) := by omega
      rw [List.take_of_length_le (by omega)] at hI
      obtain ⟨⟨Lr, hL, ho, hr⟩, _, hp, hb⟩ := hI.out
      have hll : Lr.length = (recsM l).1.length := by rw [← hL, List.length_map]
      rw [hll] at ho
      have HR1 : Hid (CurrRow wr w.heap.size (fun k => w.heap.size ≤ k ∧ k < wr.heap.size) (.slice A1 n1 c1) (recsM l).1) := hid ⟨Lr, hL, ho, fun p hp' => (hr p hp').mono (fun k hk => ⟨by omega, hk.2.1⟩)⟩
      have HR2 := hid hp
      have HR3 := hid hb
      clear hL ho hr hp hb hll
      go_wp2
      go_ret3
      exact ⟨_, _, _, rfl, HR1.out, HR2.out, HR3.out⟩
set_option maxHeartbeats 4000000 in
theorem rread11_any (A : Option Addr) (l : List RecD) (c : Nat) (w : World) (h : RecsIn w (fun k => k < w.heap.size) A l) (hl : l.length ≤ 1073741824)
    (hsz : ∀ x ∈ l, ∀ f ∈ x.2, f.1.length ≤ 2097152) :
    Calls Tryz.prog 11 #[.slice A l.length c] w (ReadOut (recsM l) w) := by
  have CL := hid (rlines_any A l c w h hl hsz)
  clear h hsz
  unfold ReadOut
  go_enter Tryz.func11, Tryz.ntmps11
  go_wp2_with fail
  refine CL.out.mono ?_
  rintro e w2 ⟨v1, v3, v2, rfl, h1, h2, h3⟩
  have H1 := hid h1
  have H2 := hid h2
  have H3 := hid h3
  clear h1 h2 h3 CL
  go_wp2
  go_ret2
  exact ⟨_, _, rfl, H1.out, H2.out, H3.out⟩
end Go.Proofs.YtpaejkhaiifgdaaGreatDoor.S11

set_option linter.unusedVariables false
namespace Go.Proofs.YtpaejkhaiifgdaaGreatDoor.S11
open Go Go.Proofs Go.RowKit Go.Lib Go.Proofs.YtpaejkhaiifgdaaGreatDoor Go.Proofs.YtpaejkhaiifgdaaGreatDoor.S10

/-- The pairs as the specification finds them. -/
def refOf (p : Nat → Bool) : List Nat → List StartD
  | [] => []
  | a :: r => (if p a = true then (r.filter p).map (fun k : Nat => ((a : Int), (k : Int))) else []) ++ refOf p r
theorem pairs_ref (p : Nat → Bool) : ∀ L : List Nat, pairsOf (L.filter p) = refOf p L
  | [] => rfl
  | a :: r => by
    unfold refOf
    cases h : p a with
    | true => rw [List.filter_cons_of_pos h, pairsOf, pairs_ref p r, if_pos rfl]
    | false => rw [List.filter_cons_of_neg (by simp [h]), pairs_ref p r, if_neg (by simp)]; rfl
theorem range'_cons {i n : Nat} (h : i < n) : List.range' i (n - i) = i :: List.range' (i + 1) (n - (i + 1)) := by
  have : n - i = (n - (i + 1)) + 1 := by omega
  rw [this, List.range'_succ]
theorem range'_nil {i n : Nat} (h : n ≤ i) : List.range' i (n - i) = [] := by
  have : n - i = 0 := by omega
  rw [this]; rfl
theorem pairsM_ref (cs : List Str) (l : List ClassD) : pairsM cs l = refOf (attB cs l) (List.range' 0 (l.length - 0)) := by
  unfold pairsM attL
  rw [pairs_ref, List.range_eq_range', Nat.sub_zero]
end Go.Proofs.YtpaejkhaiifgdaaGreatDoor.S11

set_option linter.unusedVariables false
namespace Go.Proofs.YtpaejkhaiifgdaaGreatDoor.S3
open Go Go.Proofs Go.RowKit Go.Lib

theorem drewN_heap (w : World) : ∀ (q b : Nat), (w.drewN q).heap[b]? = w.heap[b]?
  | 0, _ => rfl
  | q + 1, b => drewN_heap w q b
theorem take_eq_succ (la lb : List Str) (i : Nat) (hi : i < la.length) (hl : la.length = lb.length) (h : la.take i = lb.take i) : (la.take (i + 1) = lb.take (i + 1)) ↔ la[i] = lb[i]'(by omega) := by
  rw [List.take_add_one, List.take_add_one, List.getElem?_eq_getElem hi, List.getElem?_eq_getElem (show i < lb.length by omega), h]
  constructor
  · intro e
    simpa using List.append_cancel_left e
  · intro e
    rw [e]

set_option maxHeartbeats 2000000 in
set_option maxRecDepth 100000 in
theorem sameStrings_any (A A' : Option Addr) (la lb : List Str) (ca cb : Nat) (P P' : Nat → Prop) (w : World) (ha : StrsIn w P A la) (hb : StrsIn w P' A' lb) (h63 : la.length ≤ 9223372036854775807) :
    Calls Tryz.prog 46 #[.slice A la.length ca, .slice A' lb.length cb] w fun e w' => e = .returned (.bool (decide (la = lb))) ∧ ∃ q, w' = w.drewN q := by
  by_cases hl : la.length = lb.length
  · have hlz : ((la.length : Int) != (lb.length : Int)) = false := by simp [hl]
    obtain ⟨ANS, hANS⟩ : ∃ ANS, decide (la = lb) = ANS := ⟨_, rfl⟩
    rw [hANS]
    have HA := hid ha
    have HB := hid hb
    have HL := hid hl
    have HANS := hid hANS
    clear ha hb hl hANS
    go_enter Tryz.func46, Tryz.ntmps46
    go_wp2
    go_loopw [5] (fun iv wr => ∃ i : Nat, iv = .int .i64 (i : Int) ∧ i ≤ la.length ∧ Hid (la.take i = lb.take i) ∧ ∃ q, wr = w.drewN q) (fun iv _ => la.length - (RowKit.intOf iv).toNat)
    case atStart => exact ⟨0, rfl, Nat.zero_le _, hid rfl, 0, rfl⟩
    case round =>
      obtain ⟨i, rfl, hi, ht, q, rfl⟩ := hrel
      by_cases hlt : i < la.length
      · have hltz : (i : Int) < (la.length : Int) := by omega
        have hlt' : i < lb.length := by rw [← HL.out]; exact hlt
        have hltz' : (i : Int) < (lb.length : Int) := by omega
        obtain ⟨b1, o1, rfl, _, hc1⟩ := HA.out.at_ hlt
        obtain ⟨b2, o2, rfl, _, hc2⟩ := HB.out.at_ hlt'
        have hiff := take_eq_succ la lb i hlt HL.out ht.out
        obtain ⟨x, hx⟩ : ∃ x, la[i] = x := ⟨_, rfl⟩
        obtain ⟨y, hy⟩ : ∃ y, lb[i] = y := ⟨_, rfl⟩
        rw [hx] at hc1 hiff
        rw [hy] at hc2 hiff
        obtain ⟨X, hX⟩ : ∃ X : ByteArray, (⟨x.toArray⟩ : ByteArray) = X := ⟨_, rfl⟩
        obtain ⟨Y, hY⟩ : ∃ Y : ByteArray, (⟨y.toArray⟩ : ByteArray) = Y := ⟨_, rfl⟩
        have hXl : X.toList = x := by rw [Lib.toList_data, ← hX]
        have hYl : Y.toList = y := by rw [Lib.toList_data, ← hY]
        have e1 : strV x = .string X := by rw [← hX]; rfl
        have e2 : strV y = .string Y := by rw [← hY]; rfl
        rw [e1] at hc1
        rw [e2] at hc2
        have HIFF := hid hiff
        have HX := hid hx
        have HY := hid hy
        by_cases hxy : x = y
        · have hbe : (X.toList != Y.toList) = false := by rw [hXl, hYl, hxy]; simp
          have hbe2 : (X.toList == Y.toList) = true := by rw [hXl, hYl, hxy]; simp
          clear hiff hx hy hX hY hXl hYl e1 e2
          go_wp2
          go_quiet (fail)
          go_wp2
          go_roundw
          case rel => exact ⟨i + 1, by go_num, by omega, hid (HIFF.out.2 hxy), q + nq, rfl⟩
          case measure => simp [RowKit.intOf]; omega
        · have hbe : (X.toList != Y.toList) = true := by rw [hXl, hYl]; simpa using hxy
          have hbe2 : (X.toList == Y.toList) = false := by rw [hXl, hYl]; simpa using hxy
          have hf : ANS = false := by
            rw [← HANS.out]
            apply decide_eq_false
            intro e
            subst e
            exact hxy (by rw [← HX.out, ← HY.out])
          subst hf
          clear hiff hx hy hX hY hXl hYl e1 e2
          go_wp2
          go_quiet (fail)
          go_wp2
          go_ret
          exact ⟨rfl, q + nq, by rw [World.drewN_drewN]⟩
      · have hltz : ¬ (i : Int) < (la.length : Int) := by omega
        have hf : ANS = true := by
          rw [← HANS.out]
          apply decide_eq_true
          have h := ht.out
          rwa [List.take_of_length_le (by omega), List.take_of_length_le (by have := HL.out; omega)] at h
        subst hf
        go_wp2
        go_ret
        exact ⟨rfl, q, rfl⟩
  · have hlz : ((la.length : Int) != (lb.length : Int)) = true := by simp; omega
    have hf : decide (la = lb) = false := decide_eq_false (fun e => hl (by rw [e]))
    rw [hf]
    clear ha hb
    go_enter Tryz.func46, Tryz.ntmps46
    go_wp2
    go_ret
    exact ⟨rfl, 0, rfl⟩
end Go.Proofs.YtpaejkhaiifgdaaGreatDoor.S3

