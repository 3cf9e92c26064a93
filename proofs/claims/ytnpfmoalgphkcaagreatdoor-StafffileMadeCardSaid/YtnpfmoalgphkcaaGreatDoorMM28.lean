/-
  Parse of times by the specification, for a text that names one slot and has the form. Conditions: the variables hold what their text lays; the string fits into memory.
-/
import Derived.Test.YtnpfmoalgphkcaaGreatDoorMM01
import Derived.Test.YtnpfmoalgphkcaaGreatDoorMM02
import Derived.Test.YtnpfmoalgphkcaaGreatDoorMM03
import Derived.Test.YtnpfmoalgphkcaaGreatDoorMM04
import Derived.Test.YtnpfmoalgphkcaaGreatDoorMM05
import Derived.Test.YtnpfmoalgphkcaaGreatDoorMM06
import Derived.Test.YtnpfmoalgphkcaaGreatDoorMM07
import Derived.Test.YtnpfmoalgphkcaaGreatDoorMM08
import Derived.Test.YtnpfmoalgphkcaaGreatDoorMM09
import Derived.Test.YtnpfmoalgphkcaaGreatDoorMM16
import Derived.Test.YtnpfmoalgphkcaaGreatDoorMM17
import Derived.Test.YtnpfmoalgphkcaaGreatDoorMM24
import Derived.Test.YtnpfmoalgphkcaaGreatDoorProg
import Derived.WalkKit
import Derived.WalkSpells
import Derived.WalkLawsBesides
import Derived.Lib.Hide
import Derived.Deep.QuietTactic
import Derived.BigQuiet
import Derived.Laws.Rows
import Derived.OwnWalk
import Derived.Lib.BufferWrite
import Derived.Lib.UnsafeStr
import Derived.Laws.IdiomStrings
import Derived.Laws.BytesArg
import Derived.Laws.BytesString
import Derived.Laws.OwnMore
import Derived.Lib.IndexLaws
import Derived.Lib.ItoaNum
import Derived.Lib.Atoi
import Derived.Laws.BitsAllLaws
import Derived.Laws.BitsLemmas
import Derived.Deep.MidRow
import Derived.Shelf.Strings.Builder1
import Derived.Shelf.Strings.Builder2
import Derived.Shelf.Strings.OnBuilder
import Derived.Shelf.Strings.BuilderF
import Derived.Shelf.Strings.BuilderK
import Derived.Shelf.Strings.Builder2Cap
import Derived.Shelf.Strconv.Atoi
import Derived.Shelf.Strconv.Itoa0
import Derived.Shelf.Strconv.Itoa1
import Derived.Shelf.LaysM
import Derived.Shelf.Strconv.Itoa2
import Derived.Shelf.Strconv.Itoa3
import Derived.Shelf.Strconv.AtoiErrFast
import Derived.Shelf.Strconv.ParseIntEmpty
import Derived.Shelf.Strconv.AtoiFail
import Derived.Shelf.Strconv.Clone
import Derived.Shelf.Strconv.SyntaxError
import Derived.Shelf.LaysC
import Derived.Shelf.Strconv.ToError
import Derived.Shelf.Strconv.AtoiErr
import Derived.Shelf.Strings.Search1
import Derived.Shelf.Strings.Search2
import Derived.Shelf.Strings.Search3
import Derived.Shelf.Strings.Cut
import Derived.Shelf.Strings.Shaped
import Derived.Shelf.Strings.Prefix
import Derived.Shelf.Unicode.DecodeSlow
import Derived.Shelf.Strings.BuilderCap
import Derived.Lib.AtoiErrMem
import Derived.Handy
import Derived.RangeFuncNested
import Derived.RangeFuncBound
import Derived.RangeFuncCalls
import Derived.RangeFuncLeaves
import Derived.Shelf.Abstract
import Derived.Shelf.RegionOpen
import Derived.OwnWalkIn
import Derived.TacticsInMore
import Derived.LoopNIn
import Derived.LoopIn
import Derived.Laws.ResultCell
import Derived.Deep.RegionLaw
import Derived.Deep.RegionHeld3
set_option linter.unusedVariables false
set_option linter.unusedSimpArgs false
namespace Go.Proofs.YtnpfmoalgphkcaaGreatDoor
open Go Go.Proofs Go.RowKit Go.Lib
set_option maxHeartbeats 16000000 in
set_option maxRecDepth 100000 in
theorem rtparse_one_g (d s b m N : Int) (x : ByteArray) (hz : x.size ≤ 4611686018427387904) (w : World) (hsz : 9 < w.heap.size) (hW : Words w) (hRD : RDays w) (hb0 : has 45 (wSlots (lst x)) = false) (hgd : goodT (lst x)) :
    Calls Tryz.prog 93 #[.agg #[.int .i64 d, .int .i64 s, .int .i64 b, .int .i64 m], .int .i64 N, .string x] w (TimeOut (timeM d s b m N (lst x)) w) := by
  have cF := fun w => usable_any d s b m N w
  unfold Says at cF
  unfold TimeOut timeM
  cases hf : frameB d s b m N with
  | false =>
    rw [hf] at cF
    rw [if_neg (by simp)]
    clear hf hW hRD
    have HK := hid (PK.first w d s b m 24)
    go_enter Tryz.func93, Tryz.ntmps93
    go_wp2_with fail
    refine (cF _).mono ?_
    rintro e w1 ⟨rfl, hb⟩
    have hk2 := HK.out.next hb
    clear hb HK
    have hk := hk2
    clear hk2
    obtain ⟨⟨x0, x1, x2, x3, -⟩, ⟨r0, r1, r2, r3, -⟩⟩ := And.intro hk.x hk.r.box
    have f0 := hk.r.free 0
    have f1 := hk.r.free 1
    have f2 := hk.r.free 2
    have f3 := hk.r.free 3
    go_wp2
    have hf := hk.fin (0) (0) (0) (0) _ rfl
    refine bodyPost_ret (v := .tuple #[.agg #[.int .i64 (0), .int .i64 (0), .int .i64 (0), .int .i64 (0)], .int .i64 (1)]) (results_ct rfl _ _ _ ⟨w.heap.size + 1, 0, none⟩ _ _ rfl rfl hf.1) rfl ?_
    first | exact ⟨rfl, hf.2⟩ | exact ⟨by congr 5; omega, hf.2⟩ | (refine ⟨?_, hf.2⟩; rw [show (f : Int) - (f : Int) + 1 = 1 by omega])
  | true =>
    rw [hf] at cF
    rw [if_pos rfl]
    obtain ⟨_, n1, n2⟩ := frame_of hf
    obtain ⟨n, rfl⟩ := natN (show 0 ≤ N by omega)
    rw [Int.toNat_natCast]
    have hR0 := aft_small (s := x) 32 hz
    have hB0 := slots_small hz
    have hC0 : (ba (wSet (lst x))).size ≤ 4611686018427387904 := by
      rw [ba_size]
      have h1 := aft_le 32 (aft 32 (lst x))
      have h2 := aft_le 32 (lst x)
      rw [← Lib.size_eq] at h2
      unfold wSet
      omega
    have c1 := hid (fun w => rcut_any x 32 hz w)
    have c2 := hid (fun w => rcut_any (ba (aft 32 (lst x))) 32 hR0 w)
    have c3 := hid (fun w => rcut_any (ba (wSlots (lst x))) 45 hB0 w)
    have c4 := hid (fun w => rcut_any (ba (wSet (lst x))) 32 hC0 w)
    have cX := hid (fun w => rsmall_any (ba (bef 45 (wSlots (lst x)))) w)
    have cY := hid (fun w => rsmall_any (ba (aft 45 (wSlots (lst x)))) w)
    have cD := hid (fun w' (hb : Below w.heap.size w w') => weekday_any (ba (wDay (lst x))) w' (Nat.lt_of_lt_of_le hsz hb.size) (hRD.below hb hsz))
    have cP := hid (fun w' (hb : Below w.heap.size w w') => rparse_any (ba (wSet (lst x))) hC0 (n : Int) w' (hW.below hb hsz) (Nat.lt_of_lt_of_le hsz hb.size))
    have c1' := c1.out
    have c2' := c2.out
    have c3' := c3.out
    have c4' := c4.out
    have cX' := cX.out
    have cY' := cY.out
    have cD' := cD.out
    have cP' := cP.out
    unfold CutOut at c1' c2' c3' c4'
    unfold ItemOut parseM at cP'
    rw [if_pos (show (1 : Int) ≤ (n : Int) ∧ (n : Int) ≤ 20 by omega), Int.toNat_natCast] at cP'
    simp only [lst_ba] at c2' c3' c4' cX' cY' cD' cP'
    obtain ⟨both, hb⟩ : ∃ r, has 45 (wSlots (lst x)) = r := ⟨_, rfl⟩
    have hbo := hid (hb.symm.trans hb0)
    clear hb0
    obtain ⟨two, h2⟩ : ∃ r, has 32 (lst x) = r := ⟨_, rfl⟩
    obtain ⟨three, h3⟩ : ∃ r, wThree (lst x) = r := ⟨_, rfl⟩
    obtain ⟨four, h4⟩ : ∃ r, has 32 (wSet (lst x)) = r := ⟨_, rfl⟩
    obtain ⟨ce, hc⟩ : ∃ r, (wSet (lst x) == []) = r := ⟨_, rfl⟩
    obtain ⟨f, hf'⟩ : ∃ r, smallN (bef 45 (wSlots (lst x))) = r := ⟨_, rfl⟩
    obtain ⟨g2, hg'⟩ : ∃ r, smallN (aft 45 (wSlots (lst x))) = r := ⟨_, rfl⟩
    obtain ⟨wd, hw⟩ : ∃ r, wdayI (wDay (lst x)) = r := ⟨_, rfl⟩
    obtain ⟨⟨v, e⟩, hv⟩ : ∃ r, parseN (wSet (lst x)) n = r := ⟨_, rfl⟩
    obtain ⟨g, hg⟩ : ∃ g, toN (wSlots (lst x)) = g := ⟨_, rfl⟩
    have hgg : g = if both = true then g2 else f := by rw [← hg, ← hg', ← hf', ← hb]; rfl
    have hfl : f < 100 := by rw [← hf']; exact smallN_lt _
    have hgl : g < 100 := by rw [← hg]; unfold toN; split <;> exact smallN_lt _
    have hwl : wd < 7 := by
      rw [← hw]
      unfold wdayI
      split
      · rename_i hk
        have := (dayK_some hk).1
        omega
      · omega
    have hway := ref_body (d := d) (s := s) (n := n) h2 h3 h4 hc hf' hg hw hv
    have HG : Hid (two = true ∧ four = false ∧ (three = false ∨ three = true ∧ ce = false) ∧ ¬ wd < 0 ∧ f ≠ 0 ∧ g ≠ 0) := hid (by
      obtain ⟨a1, a2, a3, a4, a5, a6⟩ := hgd
      exact ⟨h2.symm.trans a1, h4.symm.trans a2, by rw [← h3, ← hc]; exact a3, by rw [← hw]; exact a4, fun e => a5 (hf'.trans e), fun e => a6 (hg.trans e)⟩)
    clear hgd
    obtain ⟨ZC, hZC⟩ : ∃ Z, ba (wSet (lst x)) = Z := ⟨_, rfl⟩
    have hce : (ZC.toList == []) = ce := by rw [tl_eq, ← hZC, ← hc]; rfl
    rw [show bef 32 (lst x) = wDay (lst x) from rfl, h2] at c1'
    rw [show bef 32 (aft 32 (lst x)) = wSlots (lst x) from rfl, show aft 32 (aft 32 (lst x)) = wSet (lst x) from rfl, show has 32 (aft 32 (lst x)) = wThree (lst x) from rfl, h3, hZC] at c2'
    rw [hb] at c3'
    rw [h4, hZC] at c4'
    rw [hf'] at cX'
    rw [hg'] at cY'
    rw [hw] at cD'
    rw [hv, hZC] at cP'
    dsimp only at cP'
    generalize bodyT d s n (lst x) = R at hway ⊢
    generalize ba (wDay (lst x)) = Z1 at c1' cD'
    generalize ba (wSlots (lst x)) = Z2 at c2' c3'
    generalize ba (aft 32 (lst x)) = Z3 at c1' c2'
    generalize ba (bef 45 (wSlots (lst x))) = Z4 at c3' cX'
    generalize ba (aft 45 (wSlots (lst x))) = Z5 at c3' cY'
    generalize ba (bef 32 (wSet (lst x))) = Z6 at c4'
    generalize ba (aft 32 (wSet (lst x))) = Z7 at c4'
    clear c1 c2 c3 c4 cX cY cD cP
    have c1 := hid c1'
    have c2 := hid c2'
    have c3 := hid c3'
    have c4 := hid c4'
    have cX := hid cX'
    have cY := hid cY'
    have cD := hid cD'
    have cP := hid cP'
    have hpw := powI n (by omega)
    have hpe : (2 : Int) ^ n - 1 = ((2 ^ n - 1 : Nat) : Int) := by
      have e : (2 : Int) ^ n = ((2 ^ n : Nat) : Int) := by rw [Int.natCast_pow]; rfl
      have := Nat.two_pow_pos n
      omega
    have HPE := hid hpe
    have e1 : IntKind.i64.wrap ((f : Int) - 1) = (f : Int) - 1 := IntWalk.i64_in _ (by omega)
    have e2 : IntKind.i64.wrap ((g : Int) - (f : Int)) = (g : Int) - (f : Int) := IntWalk.i64_in _ (by omega)
    have e3 : IntKind.i64.wrap ((g : Int) - (f : Int) + 1) = (g : Int) - (f : Int) + 1 := IntWalk.i64_in _ (by omega)
    clear hf c1' c2' c3' c4' cX' cY' cD' cP' hb h2 h3 h4 hc hf' hg' hw hv hg hZC hpe hW hRD hR0 hB0 hC0
    have key : ∀ (bo : Bool), both = bo → (bo = true ∨ bo = false) := fun bo _ => by cases bo <;> simp
    clear key
    cases both with
    | true => exact absurd hbo.out (by simp)
    | false =>
      clear hbo
      obtain rfl : f = g := by simpa using hgg.symm
      clear hgg
      have HK := hid (PK.first w d s b m 24)
      go_enter Tryz.func93, Tryz.ntmps93
      go_wp2_with fail
      refine (cF _).mono ?_
      rintro e w1 ⟨rfl, hb⟩
      have hk2 := HK.out.next hb
      clear hb HK
      have hk := hk2
      clear hk2
      obtain ⟨⟨x0, x1, x2, x3, -⟩, ⟨r0, r1, r2, r3, -⟩⟩ := And.intro hk.x hk.r.box
      have f0 := hk.r.free 0
      have f1 := hk.r.free 1
      have f2 := hk.r.free 2
      have f3 := hk.r.free 3
      go_wp2_with fail
      refine (c1.out _).mono ?_
      rintro e w1 ⟨rfl, q, hq⟩
      clear x0 x1 x2 x3 r0 r1 r2 r3 f0 f1 f2 f3
      have hk2 := hk.next (show Below _ _ w1 by rw [hq]; exact Go.below_drewN (Below.refl _ _) q)
      clear hq hk
      have hk := hk2
      clear hk2
      obtain ⟨⟨x0, x1, x2, x3, -⟩, ⟨r0, r1, r2, r3, -⟩⟩ := And.intro hk.x hk.r.box
      have f0 := hk.r.free 0
      have f1 := hk.r.free 1
      have f2 := hk.r.free 2
      have f3 := hk.r.free 3
      go_wp2_with fail
      refine (c2.out _).mono ?_
      rintro e w1 ⟨rfl, q, hq⟩
      clear x0 x1 x2 x3 r0 r1 r2 r3 f0 f1 f2 f3
      have hk2 := hk.next (show Below _ _ w1 by rw [hq]; exact Go.below_drewN (Below.refl _ _) q)
      clear hq hk
      have hk := hk2
      clear hk2
      obtain ⟨⟨x0, x1, x2, x3, -⟩, ⟨r0, r1, r2, r3, -⟩⟩ := And.intro hk.x hk.r.box
      have f0 := hk.r.free 0
      have f1 := hk.r.free 1
      have f2 := hk.r.free 2
      have f3 := hk.r.free 3
      go_wp2_with fail
      refine (c3.out _).mono ?_
      rintro e w1 ⟨rfl, q, hq⟩
      clear x0 x1 x2 x3 r0 r1 r2 r3 f0 f1 f2 f3
      have hk2 := hk.next (show Below _ _ w1 by rw [hq]; exact Go.below_drewN (Below.refl _ _) q)
      clear hq hk
      have hk := hk2
      clear hk2
      obtain ⟨⟨x0, x1, x2, x3, -⟩, ⟨r0, r1, r2, r3, -⟩⟩ := And.intro hk.x hk.r.box
      have f0 := hk.r.free 0
      have f1 := hk.r.free 1
      have f2 := hk.r.free 2
      have f3 := hk.r.free 3
      go_wp2_with fail
      refine (cX.out _).mono ?_
      rintro e w1 ⟨rfl, hw⟩
      clear x0 x1 x2 x3 r0 r1 r2 r3 f0 f1 f2 f3
      have hk2 := hk.next (show Below _ _ w1 by rw [hw]; exact Below.refl _ _)
      clear hw hk
      have hk := hk2
      clear hk2
      obtain ⟨⟨x0, x1, x2, x3, -⟩, ⟨r0, r1, r2, r3, -⟩⟩ := And.intro hk.x hk.r.box
      have f0 := hk.r.free 0
      have f1 := hk.r.free 1
      have f2 := hk.r.free 2
      have f3 := hk.r.free 3
      go_wp2_with fail
      refine (c4.out _).mono ?_
      rintro e w1 ⟨rfl, q, hq⟩
      clear x0 x1 x2 x3 r0 r1 r2 r3 f0 f1 f2 f3
      have hk2 := hk.next (show Below _ _ w1 by rw [hq]; exact Go.below_drewN (Below.refl _ _) q)
      clear hq hk
      have hk := hk2
      clear hk2
      obtain ⟨⟨x0, x1, x2, x3, -⟩, ⟨r0, r1, r2, r3, -⟩⟩ := And.intro hk.x hk.r.box
      have f0 := hk.r.free 0
      have f1 := hk.r.free 1
      have f2 := hk.r.free 2
      have f3 := hk.r.free 3
      go_wp2_with fail
      refine (cD.out _ (hk.b)).mono ?_
      rintro e w1 ⟨rfl, hb⟩
      clear x0 x1 x2 x3 r0 r1 r2 r3 f0 f1 f2 f3
      have hk2 := hk.next hb
      clear hb hk
      have hk := hk2
      clear hk2
      obtain ⟨⟨x0, x1, x2, x3, -⟩, ⟨r0, r1, r2, r3, -⟩⟩ := And.intro hk.x hk.r.box
      have f0 := hk.r.free 0
      have f1 := hk.r.free 1
      have f2 := hk.r.free 2
      have f3 := hk.r.free 3
      cases hway with
      | w1 p1 => exact absurd (p1.symm.trans HG.out.1) (by simp)
      | w2 p1 p2 => exact absurd (p2.symm.trans HG.out.2.1) (by simp)
      | w3 p1 p2 p3 p4 => rcases HG.out.2.2.1 with h | ⟨_, h⟩; exact absurd (p3.symm.trans h) (by simp); exact absurd (p4.symm.trans h) (by simp)
      | w4 p1 p2 p3 p4 => exact absurd p4 (by have := HG.out.2.2.2.1; omega)
      | w5 p1 p2 p3 p4 p5 => exact absurd p5 HG.out.2.2.2.2.1
      | w6 p1 p2 p3 p4 p5 p6 => exact absurd p6 HG.out.2.2.2.2.2
      | g1 p1 p2 p3 p4 p5 p6 p7 =>
        subst p1 p2
        have q4 : decide (wd < 0) = false := decide_eq_false p4
        have q5 : ((f : Int) == 0) = false := by simpa using p5
        have q6 : ((f : Int) == 0) = false := by simpa using p6
        have q7 : decide (d ≤ wd) = true := decide_eq_true p7
        rcases p3 with rfl | ⟨rfl, rfl⟩
        all_goals
          as_aux_lemma =>
            go_wp2
            have hf := hk.fin (0) (0) (0) (0) _ rfl
            refine bodyPost_ret (v := .tuple #[.agg #[.int .i64 (0), .int .i64 (0), .int .i64 (0), .int .i64 (0)], .int .i64 (14)]) (results_ct rfl _ _ _ ⟨w.heap.size + 1, 0, none⟩ _ _ rfl rfl hf.1) rfl ?_
            first | exact ⟨rfl, hf.2⟩ | exact ⟨by congr 5; omega, hf.2⟩ | (refine ⟨?_, hf.2⟩; rw [show (f : Int) - (f : Int) + 1 = 1 by omega])
      | g2 p1 p2 p3 p4 p5 p6 p7 p8 =>
        subst p1 p2
        have q4 : decide (wd < 0) = false := decide_eq_false p4
        have q5 : ((f : Int) == 0) = false := by simpa using p5
        have q6 : ((f : Int) == 0) = false := by simpa using p6
        have q7 : decide (d ≤ wd) = false := decide_eq_false p7
        have q8 : decide (s < (f : Int)) = true := decide_eq_true p8
        rcases p3 with rfl | ⟨rfl, rfl⟩
        all_goals
          as_aux_lemma =>
            go_wp2
            have hf := hk.fin (0) (0) (0) (0) _ rfl
            refine bodyPost_ret (v := .tuple #[.agg #[.int .i64 (0), .int .i64 (0), .int .i64 (0), .int .i64 (0)], .int .i64 (14)]) (results_ct rfl _ _ _ ⟨w.heap.size + 1, 0, none⟩ _ _ rfl rfl hf.1) rfl ?_
            first | exact ⟨rfl, hf.2⟩ | exact ⟨by congr 5; omega, hf.2⟩ | (refine ⟨?_, hf.2⟩; rw [show (f : Int) - (f : Int) + 1 = 1 by omega])
      | g3 p1 p2 p3 p4 p5 p6 p7 p8 p9 => exact absurd p9 (by omega)
      | g4 p1 p2 p3 p3b p4 p5 p6 p7 p8 p9 p10 =>
        subst p1 p2 p3 p3b
        have q4 : decide (wd < 0) = false := decide_eq_false p4
        have q5 : ((f : Int) == 0) = false := by simpa using p5
        have q6 : ((f : Int) == 0) = false := by simpa using p6
        have q7 : decide (d ≤ wd) = false := decide_eq_false p7
        have q8 : decide (s < (f : Int)) = false := decide_eq_false p8
        have q9 : decide ((f : Int) < (f : Int)) = false := decide_eq_false (by omega)
        have q10 : (e != 0) = true := by simpa using p10
        as_aux_lemma =>
          have hba := (Below.refl _ w1).alloc (Nat.le_refl _) (.cells #[.int .i64 (2 ^ n - 1), .int .i64 wd, .int .i64 ((f : Int) - 1), .int .i64 (1)] 26)
          have hT := Cells4.new w1 (2 ^ n - 1) wd ((f : Int) - 1) (1) 26
          have hltr := hk.r.box.lt
          have hk2 := hk.next hba
          clear hk hba
          have hk := hk2
          clear hk2
          obtain ⟨⟨xx0, xx1, xx2, xx3, -⟩, ⟨rr0, rr1, rr2, rr3, -⟩⟩ := And.intro hk.x hk.r.box
          have ff0 := hk.r.free 0
          have ff1 := hk.r.free 1
          have ff2 := hk.r.free 2
          have ff3 := hk.r.free 3
          have HT := hid hT
          clear hT
          go_wp2_with fail
          refine (cP.out _ hk.b).mono ?_
          rintro e w2 ⟨rfl, hb⟩
          clear x0 x1 x2 x3 r0 r1 r2 r3 f0 f1 f2 f3
          clear xx0 xx1 xx2 xx3 rr0 rr1 rr2 rr3 ff0 ff1 ff2 ff3
          have HT2 := hid (HT.out.under hb)
          have hk2 := hk.next hb
          clear hb hk
          have hk := hk2
          clear hk2
          obtain ⟨⟨x0, x1, x2, x3, -⟩, ⟨r0, r1, r2, r3, -⟩⟩ := And.intro hk.x hk.r.box
          have f0 := hk.r.free 0
          have f1 := hk.r.free 1
          have f2 := hk.r.free 2
          have f3 := hk.r.free 3
          go_wp2
          have hf := hk.fin (0) (0) (0) (0) _ rfl
          refine bodyPost_ret (v := .tuple #[.agg #[.int .i64 (0), .int .i64 (0), .int .i64 (0), .int .i64 (0)], .int .i64 (e)]) (results_ct rfl _ _ _ ⟨w.heap.size + 1, 0, none⟩ _ _ rfl rfl hf.1) rfl ?_
          first | exact ⟨rfl, hf.2⟩ | exact ⟨by congr 5; omega, hf.2⟩ | (refine ⟨?_, hf.2⟩; rw [show (f : Int) - (f : Int) + 1 = 1 by omega])
      | g5 p1 p2 p3 p3b p4 p5 p6 p7 p8 p9 p10 =>
        subst p1 p2 p3 p3b
        have q4 : decide (wd < 0) = false := decide_eq_false p4
        have q5 : ((f : Int) == 0) = false := by simpa using p5
        have q6 : ((f : Int) == 0) = false := by simpa using p6
        have q7 : decide (d ≤ wd) = false := decide_eq_false p7
        have q8 : decide (s < (f : Int)) = false := decide_eq_false p8
        have q9 : decide ((f : Int) < (f : Int)) = false := decide_eq_false (by omega)
        subst p10
        as_aux_lemma =>
          have hba := (Below.refl _ w1).alloc (Nat.le_refl _) (.cells #[.int .i64 (2 ^ n - 1), .int .i64 wd, .int .i64 ((f : Int) - 1), .int .i64 (1)] 26)
          have hT := Cells4.new w1 (2 ^ n - 1) wd ((f : Int) - 1) (1) 26
          have hltr := hk.r.box.lt
          have hk2 := hk.next hba
          clear hk hba
          have hk := hk2
          clear hk2
          obtain ⟨⟨xx0, xx1, xx2, xx3, -⟩, ⟨rr0, rr1, rr2, rr3, -⟩⟩ := And.intro hk.x hk.r.box
          have ff0 := hk.r.free 0
          have ff1 := hk.r.free 1
          have ff2 := hk.r.free 2
          have ff3 := hk.r.free 3
          have HT := hid hT
          clear hT
          go_wp2_with fail
          refine (cP.out _ hk.b).mono ?_
          rintro e w2 ⟨rfl, hb⟩
          clear x0 x1 x2 x3 r0 r1 r2 r3 f0 f1 f2 f3
          clear xx0 xx1 xx2 xx3 rr0 rr1 rr2 rr3 ff0 ff1 ff2 ff3
          have HT2 := hid (HT.out.under hb)
          have hk2 := hk.next hb
          clear hb hk
          have hk := hk2
          clear hk2
          obtain ⟨⟨x0, x1, x2, x3, -⟩, ⟨r0, r1, r2, r3, -⟩⟩ := And.intro hk.x hk.r.box
          have f0 := hk.r.free 0
          have f1 := hk.r.free 1
          have f2 := hk.r.free 2
          have f3 := hk.r.free 3
          have t0 := HT2.out.free 0
          obtain ⟨y0, y1, y2, y3, -⟩ := HT2.out.box
          have hne : w.heap.size + 1 ≠ w1.heap.size := by omega
          have hks := PK.setT hk (R := w1.heap.size) (by omega) 0 (.int .i64 (v : Int))
          go_wp2
          have hf := hks.fin ((v : Int)) (wd) ((f : Int) - 1) (1) _ rfl
          refine bodyPost_ret (v := .tuple #[.agg #[.int .i64 ((v : Int)), .int .i64 (wd), .int .i64 ((f : Int) - 1), .int .i64 (1)], .int .i64 (0)]) (results_ct rfl _ _ _ ⟨w.heap.size + 1, 0, none⟩ _ _ rfl rfl hf.1) rfl ?_
          first | exact ⟨rfl, hf.2⟩ | exact ⟨by congr 5; omega, hf.2⟩ | (refine ⟨?_, hf.2⟩; rw [show (f : Int) - (f : Int) + 1 = 1 by omega])
      | g6 p1 p2 p3 p4 p5 p6 p7 p8 p9 =>
        subst p1 p2 p3
        have q4 : decide (wd < 0) = false := decide_eq_false p4
        have q5 : ((f : Int) == 0) = false := by simpa using p5
        have q6 : ((f : Int) == 0) = false := by simpa using p6
        have q7 : decide (d ≤ wd) = false := decide_eq_false p7
        have q8 : decide (s < (f : Int)) = false := decide_eq_false p8
        have q9 : decide ((f : Int) < (f : Int)) = false := decide_eq_false (by omega)
        as_aux_lemma =>
          have hba := (Below.refl _ w1).alloc (Nat.le_refl _) (.cells #[.int .i64 (2 ^ n - 1), .int .i64 wd, .int .i64 ((f : Int) - 1), .int .i64 (1)] 26)
          have hltr := hk.r.box.lt
          have hk2 := hk.next hba
          clear hk hba
          have hk := hk2
          clear hk2
          obtain ⟨⟨xx0, xx1, xx2, xx3, -⟩, ⟨rr0, rr1, rr2, rr3, -⟩⟩ := And.intro hk.x hk.r.box
          have ff0 := hk.r.free 0
          have ff1 := hk.r.free 1
          have ff2 := hk.r.free 2
          have ff3 := hk.r.free 3
          go_wp2
          have hf := hk.fin (2 ^ n - 1) (wd) ((f : Int) - 1) (1) _ rfl
          rw [World.setCell_alloc_past _ _ 0 _ hltr, World.setCell_alloc_past _ _ 1 _ (by simpa using hltr), World.setCell_alloc_past _ _ 2 _ (by simpa using hltr), World.setCell_alloc_past _ _ 3 _ (by simpa using hltr)] at hf
          refine bodyPost_ret (v := .tuple #[.agg #[.int .i64 (2 ^ n - 1), .int .i64 (wd), .int .i64 ((f : Int) - 1), .int .i64 (1)], .int .i64 (0)]) (results_ct rfl _ _ _ ⟨w.heap.size + 1, 0, none⟩ _ _ rfl rfl hf.1) rfl ?_
          first | exact ⟨rfl, hf.2⟩ | exact ⟨by congr 5; omega, hf.2⟩ | (refine ⟨?_, hf.2⟩; rw [show (f : Int) - (f : Int) + 1 = 1 by omega])
end Go.Proofs.YtnpfmoalgphkcaaGreatDoor
