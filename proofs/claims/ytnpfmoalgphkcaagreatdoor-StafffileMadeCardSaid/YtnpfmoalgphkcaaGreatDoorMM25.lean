/-
  Parse of times by the specification, for a text that names two slots and has not the form. Conditions: the variables hold what their text lays; the string fits into memory.
-/
import Derived.Test.YtnpfmoalgphkcaaGreatDoorMM01
import Derived.Test.YtnpfmoalgphkcaaGreatDoorMM02
import Derived.Test.YtnpfmoalgphkcaaGreatDoorMM03
import Derived.Test.YtnpfmoalgphkcaaGreatDoorMM04
import Derived.Test.YtnpfmoalgphkcaaGreatDoorMM05
import Derived.Test.YtnpfmoalgphkcaaGreatDoorMM06
import Derived.Test.YtnpfmoalgphkcaaGreatDoorMM07
import Derived.Test.YtnpfmoalgphkcaaGreatDoorMM08
import Derived.Test.YtnpfmoalgphkcaaGreatDoorMM09
import Derived.Test.YtnpfmoalgphkcaaGreatDoorMM16
import Derived.Test.YtnpfmoalgphkcaaGreatDoorMM17
import Derived.Test.YtnpfmoalgphkcaaGreatDoorMM24
import Derived.Test.YtnpfmoalgphkcaaGreatDoorProg
import Derived.WalkKit
import Derived.WalkSpells
import Derived.WalkLawsBesides
import Derived.Lib.Hide
import Derived.Deep.QuietTactic
import Derived.BigQuiet
import Derived.Laws.Rows
import Derived.OwnWalk
import Derived.Lib.BufferWrite
import Derived.Lib.UnsafeStr
import Derived.Laws.IdiomStrings
import Derived.Laws.BytesArg
import Derived.Laws.BytesString
import Derived.Laws.OwnMore
import Derived.Lib.IndexLaws
import Derived.Lib.ItoaNum
import Derived.Lib.Atoi
import Derived.Laws.BitsAllLaws
import Derived.Laws.BitsLemmas
import Derived.Deep.MidRow
import Derived.Shelf.Strings.Builder1
import Derived.Shelf.Strings.Builder2
import Derived.Shelf.Strings.OnBuilder
import Derived.Shelf.Strings.BuilderF
import Derived.Shelf.Strings.BuilderK
import Derived.Shelf.Strings.Builder2Cap
import Derived.Shelf.Strconv.Atoi
import Derived.Shelf.Strconv.Itoa0
import Derived.Shelf.Strconv.Itoa1
import Derived.Shelf.LaysM
import Derived.Shelf.Strconv.Itoa2
import Derived.Shelf.Strconv.Itoa3
import Derived.Shelf.Strconv.AtoiErrFast
import Derived.Shelf.Strconv.ParseIntEmpty
import Derived.Shelf.Strconv.AtoiFail
import Derived.Shelf.Strconv.Clone
import Derived.Shelf.Strconv.SyntaxError
import Derived.Shelf.LaysC
import Derived.Shelf.Strconv.ToError
import Derived.Shelf.Strconv.AtoiErr
import Derived.Shelf.Strings.Search1
import Derived.Shelf.Strings.Search2
import Derived.Shelf.Strings.Search3
import Derived.Shelf.Strings.Cut
import Derived.Shelf.Strings.Shaped
import Derived.Shelf.Strings.Prefix
import Derived.Shelf.Unicode.DecodeSlow
import Derived.Shelf.Strings.BuilderCap
import Derived.Lib.AtoiErrMem
import Derived.Handy
import Derived.RangeFuncNested
import Derived.RangeFuncBound
import Derived.RangeFuncCalls
import Derived.RangeFuncLeaves
import Derived.Shelf.Abstract
import Derived.Shelf.RegionOpen
import Derived.OwnWalkIn
import Derived.TacticsInMore
import Derived.LoopNIn
import Derived.LoopIn
import Derived.Laws.ResultCell
import Derived.Deep.RegionLaw
import Derived.Deep.RegionHeld3
set_option linter.unusedVariables false
set_option linter.unusedSimpArgs false
namespace Go.Proofs.YtnpfmoalgphkcaaGreatDoor
open Go Go.Proofs Go.RowKit Go.Lib
set_option maxHeartbeats 16000000 in
set_option maxRecDepth 100000 in
theorem rtparse_both_w (d s b m N : Int) (x : ByteArray) (hz : x.size ≤ 4611686018427387904) (w : World) (hsz : 9 < w.heap.size) (hW : Words w) (hRD : RDays w) (hb0 : has 45 (wSlots (lst x)) = true) (hgd : ¬ goodT (lst x)) :
    Calls Tryz.prog 93 #[.agg #[.int .i64 d, .int .i64 s, .int .i64 b, .int .i64 m], .int .i64 N, .string x] w (TimeOut (timeM d s b m N (lst x)) w) := by
  have cF := fun w => usable_any d s b m N w
  unfold Says at cF
  unfold TimeOut timeM
  cases hf : frameB d s b m N with
  | false =>
    rw [hf] at cF
    rw [if_neg (by simp)]
    clear hf hW hRD
    have HK := hid (PK.first w d s b m 24)
    go_enter Tryz.func93, Tryz.ntmps93
    go_wp2_with fail
    refine (cF _).mono ?_
    rintro e w1 ⟨rfl, hb⟩
    have hk2 := HK.out.next hb
    clear hb HK
    have hk := hk2
    clear hk2
    obtain ⟨⟨x0, x1, x2, x3, -⟩, ⟨r0, r1, r2, r3, -⟩⟩ := And.intro hk.x hk.r.box
    have f0 := hk.r.free 0
    have f1 := hk.r.free 1
    have f2 := hk.r.free 2
    have f3 := hk.r.free 3
    go_wp2
    have hf := hk.fin (0) (0) (0) (0) _ rfl
    refine bodyPost_ret (v := .tuple #[.agg #[.int .i64 (0), .int .i64 (0), .int .i64 (0), .int .i64 (0)], .int .i64 (1)]) (results_ct rfl _ _ _ ⟨w.heap.size + 1, 0, none⟩ _ _ rfl rfl hf.1) rfl ?_
    first | exact ⟨rfl, hf.2⟩ | exact ⟨by congr 5; omega, hf.2⟩ | (refine ⟨?_, hf.2⟩; rw [show (f : Int) - (f : Int) + 1 = 1 by omega])
  | true =>
    rw [hf] at cF
    rw [if_pos rfl]
    obtain ⟨_, n1, n2⟩ := frame_of hf
    obtain ⟨n, rfl⟩ := natN (show 0 ≤ N by omega)
    rw [Int.toNat_natCast]
    have hR0 := aft_small (s := x) 32 hz
    have hB0 := slots_small hz
    have hC0 : (ba (wSet (lst x))).size ≤ 4611686018427387904 := by
      rw [ba_size]
      have h1 := aft_le 32 (aft 32 (lst x))
      have h2 := aft_le 32 (lst x)
      rw [← Lib.size_eq] at h2
      unfold wSet
      omega
    have c1 := hid (fun w => rcut_any x 32 hz w)
    have c2 := hid (fun w => rcut_any (ba (aft 32 (lst x))) 32 hR0 w)
    have c3 := hid (fun w => rcut_any (ba (wSlots (lst x))) 45 hB0 w)
    have c4 := hid (fun w => rcut_any (ba (wSet (lst x))) 32 hC0 w)
    have cX := hid (fun w => rsmall_any (ba (bef 45 (wSlots (lst x)))) w)
    have cY := hid (fun w => rsmall_any (ba (aft 45 (wSlots (lst x)))) w)
    have cD := hid (fun w' (hb : Below w.heap.size w w') => weekday_any (ba (wDay (lst x))) w' (Nat.lt_of_lt_of_le hsz hb.size) (hRD.below hb hsz))
    have cP := hid (fun w' (hb : Below w.heap.size w w') => rparse_any (ba (wSet (lst x))) hC0 (n : Int) w' (hW.below hb hsz) (Nat.lt_of_lt_of_le hsz hb.size))
    have c1' := c1.out
    have c2' := c2.out
    have c3' := c3.out
    have c4' := c4.out
    have cX' := cX.out
    have cY' := cY.out
    have cD' := cD.out
    have cP' := cP.out
    unfold CutOut at c1' c2' c3' c4'
    unfold ItemOut parseM at cP'
    rw [if_pos (show (1 : Int) ≤ (n : Int) ∧ (n : Int) ≤ 20 by omega), Int.toNat_natCast] at cP'
    simp only [lst_ba] at c2' c3' c4' cX' cY' cD' cP'
    obtain ⟨both, hb⟩ : ∃ r, has 45 (wSlots (lst x)) = r := ⟨_, rfl⟩
    have hbo := hid (hb.symm.trans hb0)
    clear hb0
    obtain ⟨two, h2⟩ : ∃ r, has 32 (lst x) = r := ⟨_, rfl⟩
    obtain ⟨three, h3⟩ : ∃ r, wThree (lst x) = r := ⟨_, rfl⟩
    obtain ⟨four, h4⟩ : ∃ r, has 32 (wSet (lst x)) = r := ⟨_, rfl⟩
    obtain ⟨ce, hc⟩ : ∃ r, (wSet (lst x) == []) = r := ⟨_, rfl⟩
    obtain ⟨f, hf'⟩ : ∃ r, smallN (bef 45 (wSlots (lst x))) = r := ⟨_, rfl⟩
    obtain ⟨g2, hg'⟩ : ∃ r, smallN (aft 45 (wSlots (lst x))) = r := ⟨_, rfl⟩
    obtain ⟨wd, hw⟩ : ∃ r, wdayI (wDay (lst x)) = r := ⟨_, rfl⟩
    obtain ⟨⟨v, e⟩, hv⟩ : ∃ r, parseN (wSet (lst x)) n = r := ⟨_, rfl⟩
    obtain ⟨g, hg⟩ : ∃ g, toN (wSlots (lst x)) = g := ⟨_, rfl⟩
    have hgg : g = if both = true then g2 else f := by rw [← hg, ← hg', ← hf', ← hb]; rfl
    have hfl : f < 100 := by rw [← hf']; exact smallN_lt _
    have hgl : g < 100 := by rw [← hg]; unfold toN; split <;> exact smallN_lt _
    have hwl : wd < 7 := by
      rw [← hw]
      unfold wdayI
      split
      · rename_i hk
        have := (dayK_some hk).1
        omega
      · omega
    have hway := ref_body (d := d) (s := s) (n := n) h2 h3 h4 hc hf' hg hw hv
    have HG : Hid (¬ (two = true ∧ four = false ∧ (three = false ∨ three = true ∧ ce = false) ∧ ¬ wd < 0 ∧ f ≠ 0 ∧ g ≠ 0)) := hid (fun ⟨b1, b2, b3, b4, b5, b6⟩ => hgd ⟨h2.trans b1, h4.trans b2, by rw [h3, hc]; exact b3, by rw [hw]; exact b4, fun e => b5 (hf'.symm.trans e), fun e => b6 (hg.symm.trans e)⟩)
    clear hgd
    obtain ⟨ZC, hZC⟩ : ∃ Z, ba (wSet (lst x)) = Z := ⟨_, rfl⟩
    have hce : (ZC.toList == []) = ce := by rw [tl_eq, ← hZC, ← hc]; rfl
    rw [show bef 32 (lst x) = wDay (lst x) from rfl, h2] at c1'
    rw [show bef 32 (aft 32 (lst x)) = wSlots (lst x) from rfl, show aft 32 (aft 32 (lst x)) = wSet (lst x) from rfl, show has 32 (aft 32 (lst x)) = wThree (lst x) from rfl, h3, hZC] at c2'
    rw [hb] at c3'
    rw [h4, hZC] at c4'
    rw [hf'] at cX'
    rw [hg'] at cY'
    rw [hw] at cD'
    rw [hv, hZC] at cP'
    dsimp only at cP'
    generalize bodyT d s n (lst x) = R at hway ⊢
    generalize ba (wDay (lst x)) = Z1 at c1' cD'
    generalize ba (wSlots (lst x)) = Z2 at c2' c3'
    generalize ba (aft 32 (lst x)) = Z3 at c1' c2'
    generalize ba (bef 45 (wSlots (lst x))) = Z4 at c3' cX'
    generalize ba (aft 45 (wSlots (lst x))) = Z5 at c3' cY'
    generalize ba (bef 32 (wSet (lst x))) = Z6 at c4'
    generalize ba (aft 32 (wSet (lst x))) = Z7 at c4'
    clear c1 c2 c3 c4 cX cY cD cP
    have c1 := hid c1'
    have c2 := hid c2'
    have c3 := hid c3'
    have c4 := hid c4'
    have cX := hid cX'
    have cY := hid cY'
    have cD := hid cD'
    have cP := hid cP'
    have hpw := powI n (by omega)
    have hpe : (2 : Int) ^ n - 1 = ((2 ^ n - 1 : Nat) : Int) := by
      have e : (2 : Int) ^ n = ((2 ^ n : Nat) : Int) := by rw [Int.natCast_pow]; rfl
      have := Nat.two_pow_pos n
      omega
    have HPE := hid hpe
    have e1 : IntKind.i64.wrap ((f : Int) - 1) = (f : Int) - 1 := IntWalk.i64_in _ (by omega)
    have e2 : IntKind.i64.wrap ((g : Int) - (f : Int)) = (g : Int) - (f : Int) := IntWalk.i64_in _ (by omega)
    have e3 : IntKind.i64.wrap ((g : Int) - (f : Int) + 1) = (g : Int) - (f : Int) + 1 := IntWalk.i64_in _ (by omega)
    clear hf c1' c2' c3' c4' cX' cY' cD' cP' hb h2 h3 h4 hc hf' hg' hw hv hg hZC hpe hW hRD hR0 hB0 hC0
    have key : ∀ (bo : Bool), both = bo → (bo = true ∨ bo = false) := fun bo _ => by cases bo <;> simp
    clear key
    cases both with
    | true =>
      clear hbo
      obtain rfl : g2 = g := by simpa using hgg.symm
      clear hgg
      have HK := hid (PK.first w d s b m 24)
      go_enter Tryz.func93, Tryz.ntmps93
      go_wp2_with fail
      refine (cF _).mono ?_
      rintro e w1 ⟨rfl, hb⟩
      have hk2 := HK.out.next hb
      clear hb HK
      have hk := hk2
      clear hk2
      obtain ⟨⟨x0, x1, x2, x3, -⟩, ⟨r0, r1, r2, r3, -⟩⟩ := And.intro hk.x hk.r.box
      have f0 := hk.r.free 0
      have f1 := hk.r.free 1
      have f2 := hk.r.free 2
      have f3 := hk.r.free 3
      go_wp2_with fail
      refine (c1.out _).mono ?_
      rintro e w1 ⟨rfl, q, hq⟩
      clear x0 x1 x2 x3 r0 r1 r2 r3 f0 f1 f2 f3
      have hk2 := hk.next (show Below _ _ w1 by rw [hq]; exact Go.below_drewN (Below.refl _ _) q)
      clear hq hk
      have hk := hk2
      clear hk2
      obtain ⟨⟨x0, x1, x2, x3, -⟩, ⟨r0, r1, r2, r3, -⟩⟩ := And.intro hk.x hk.r.box
      have f0 := hk.r.free 0
      have f1 := hk.r.free 1
      have f2 := hk.r.free 2
      have f3 := hk.r.free 3
      go_wp2_with fail
      refine (c2.out _).mono ?_
      rintro e w1 ⟨rfl, q, hq⟩
      clear x0 x1 x2 x3 r0 r1 r2 r3 f0 f1 f2 f3
      have hk2 := hk.next (show Below _ _ w1 by rw [hq]; exact Go.below_drewN (Below.refl _ _) q)
      clear hq hk
      have hk := hk2
      clear hk2
      obtain ⟨⟨x0, x1, x2, x3, -⟩, ⟨r0, r1, r2, r3, -⟩⟩ := And.intro hk.x hk.r.box
      have f0 := hk.r.free 0
      have f1 := hk.r.free 1
      have f2 := hk.r.free 2
      have f3 := hk.r.free 3
      go_wp2_with fail
      refine (c3.out _).mono ?_
      rintro e w1 ⟨rfl, q, hq⟩
      clear x0 x1 x2 x3 r0 r1 r2 r3 f0 f1 f2 f3
      have hk2 := hk.next (show Below _ _ w1 by rw [hq]; exact Go.below_drewN (Below.refl _ _) q)
      clear hq hk
      have hk := hk2
      clear hk2
      obtain ⟨⟨x0, x1, x2, x3, -⟩, ⟨r0, r1, r2, r3, -⟩⟩ := And.intro hk.x hk.r.box
      have f0 := hk.r.free 0
      have f1 := hk.r.free 1
      have f2 := hk.r.free 2
      have f3 := hk.r.free 3
      go_wp2_with fail
      refine (cX.out _).mono ?_
      rintro e w1 ⟨rfl, hw⟩
      clear x0 x1 x2 x3 r0 r1 r2 r3 f0 f1 f2 f3
      have hk2 := hk.next (show Below _ _ w1 by rw [hw]; exact Below.refl _ _)
      clear hw hk
      have hk := hk2
      clear hk2
      obtain ⟨⟨x0, x1, x2, x3, -⟩, ⟨r0, r1, r2, r3, -⟩⟩ := And.intro hk.x hk.r.box
      have f0 := hk.r.free 0
      have f1 := hk.r.free 1
      have f2 := hk.r.free 2
      have f3 := hk.r.free 3
      go_wp2_with fail
      refine (cY.out _).mono ?_
      rintro e w1 ⟨rfl, hw⟩
      clear x0 x1 x2 x3 r0 r1 r2 r3 f0 f1 f2 f3
      have hk2 := hk.next (show Below _ _ w1 by rw [hw]; exact Below.refl _ _)
      clear hw hk
      have hk := hk2
      clear hk2
      obtain ⟨⟨x0, x1, x2, x3, -⟩, ⟨r0, r1, r2, r3, -⟩⟩ := And.intro hk.x hk.r.box
      have f0 := hk.r.free 0
      have f1 := hk.r.free 1
      have f2 := hk.r.free 2
      have f3 := hk.r.free 3
      go_wp2_with fail
      refine (c4.out _).mono ?_
      rintro e w1 ⟨rfl, q, hq⟩
      clear x0 x1 x2 x3 r0 r1 r2 r3 f0 f1 f2 f3
      have hk2 := hk.next (show Below _ _ w1 by rw [hq]; exact Go.below_drewN (Below.refl _ _) q)
      clear hq hk
      have hk := hk2
      clear hk2
      obtain ⟨⟨x0, x1, x2, x3, -⟩, ⟨r0, r1, r2, r3, -⟩⟩ := And.intro hk.x hk.r.box
      have f0 := hk.r.free 0
      have f1 := hk.r.free 1
      have f2 := hk.r.free 2
      have f3 := hk.r.free 3
      go_wp2_with fail
      refine (cD.out _ (hk.b)).mono ?_
      rintro e w1 ⟨rfl, hb⟩
      clear x0 x1 x2 x3 r0 r1 r2 r3 f0 f1 f2 f3
      have hk2 := hk.next hb
      clear hb hk
      have hk := hk2
      clear hk2
      obtain ⟨⟨x0, x1, x2, x3, -⟩, ⟨r0, r1, r2, r3, -⟩⟩ := And.intro hk.x hk.r.box
      have f0 := hk.r.free 0
      have f1 := hk.r.free 1
      have f2 := hk.r.free 2
      have f3 := hk.r.free 3
      cases hway with
      | w1 p1 =>
        subst p1
        as_aux_lemma =>
          go_wp2
          have hf := hk.fin (0) (0) (0) (0) _ rfl
          refine bodyPost_ret (v := .tuple #[.agg #[.int .i64 (0), .int .i64 (0), .int .i64 (0), .int .i64 (0)], .int .i64 (4)]) (results_ct rfl _ _ _ ⟨w.heap.size + 1, 0, none⟩ _ _ rfl rfl hf.1) rfl ?_
          first | exact ⟨rfl, hf.2⟩ | exact ⟨by congr 5; omega, hf.2⟩ | (refine ⟨?_, hf.2⟩; rw [show (f : Int) - (f : Int) + 1 = 1 by omega])
      | w2 p1 p2 =>
        subst p1 p2
        as_aux_lemma =>
          go_wp2
          have hf := hk.fin (0) (0) (0) (0) _ rfl
          refine bodyPost_ret (v := .tuple #[.agg #[.int .i64 (0), .int .i64 (0), .int .i64 (0), .int .i64 (0)], .int .i64 (4)]) (results_ct rfl _ _ _ ⟨w.heap.size + 1, 0, none⟩ _ _ rfl rfl hf.1) rfl ?_
          first | exact ⟨rfl, hf.2⟩ | exact ⟨by congr 5; omega, hf.2⟩ | (refine ⟨?_, hf.2⟩; rw [show (f : Int) - (f : Int) + 1 = 1 by omega])
      | w3 p1 p2 p3 p4 =>
        subst p1 p2 p3 p4
        as_aux_lemma =>
          go_wp2
          have hf := hk.fin (0) (0) (0) (0) _ rfl
          refine bodyPost_ret (v := .tuple #[.agg #[.int .i64 (0), .int .i64 (0), .int .i64 (0), .int .i64 (0)], .int .i64 (4)]) (results_ct rfl _ _ _ ⟨w.heap.size + 1, 0, none⟩ _ _ rfl rfl hf.1) rfl ?_
          first | exact ⟨rfl, hf.2⟩ | exact ⟨by congr 5; omega, hf.2⟩ | (refine ⟨?_, hf.2⟩; rw [show (f : Int) - (f : Int) + 1 = 1 by omega])
      | w4 p1 p2 p3 p4 =>
        subst p1 p2
        have q4 : decide (wd < 0) = true := decide_eq_true p4
        rcases p3 with rfl | ⟨rfl, rfl⟩
        all_goals
          as_aux_lemma =>
            go_wp2
            have hf := hk.fin (0) (0) (0) (0) _ rfl
            refine bodyPost_ret (v := .tuple #[.agg #[.int .i64 (0), .int .i64 (0), .int .i64 (0), .int .i64 (0)], .int .i64 (4)]) (results_ct rfl _ _ _ ⟨w.heap.size + 1, 0, none⟩ _ _ rfl rfl hf.1) rfl ?_
            first | exact ⟨rfl, hf.2⟩ | exact ⟨by congr 5; omega, hf.2⟩ | (refine ⟨?_, hf.2⟩; rw [show (f : Int) - (f : Int) + 1 = 1 by omega])
      | w5 p1 p2 p3 p4 p5 =>
        subst p1 p2
        have q4 : decide (wd < 0) = false := decide_eq_false p4
        have q5 : ((f : Int) == 0) = true := by rw [p5]; rfl
        rcases p3 with rfl | ⟨rfl, rfl⟩
        all_goals
          as_aux_lemma =>
            go_wp2
            have hf := hk.fin (0) (0) (0) (0) _ rfl
            refine bodyPost_ret (v := .tuple #[.agg #[.int .i64 (0), .int .i64 (0), .int .i64 (0), .int .i64 (0)], .int .i64 (4)]) (results_ct rfl _ _ _ ⟨w.heap.size + 1, 0, none⟩ _ _ rfl rfl hf.1) rfl ?_
            first | exact ⟨rfl, hf.2⟩ | exact ⟨by congr 5; omega, hf.2⟩ | (refine ⟨?_, hf.2⟩; rw [show (f : Int) - (f : Int) + 1 = 1 by omega])
      | w6 p1 p2 p3 p4 p5 p6 =>
        subst p1 p2
        have q4 : decide (wd < 0) = false := decide_eq_false p4
        have q5 : ((f : Int) == 0) = false := by simpa using p5
        have q6 : ((g2 : Int) == 0) = true := by rw [p6]; rfl
        rcases p3 with rfl | ⟨rfl, rfl⟩
        all_goals
          as_aux_lemma =>
            go_wp2
            have hf := hk.fin (0) (0) (0) (0) _ rfl
            refine bodyPost_ret (v := .tuple #[.agg #[.int .i64 (0), .int .i64 (0), .int .i64 (0), .int .i64 (0)], .int .i64 (4)]) (results_ct rfl _ _ _ ⟨w.heap.size + 1, 0, none⟩ _ _ rfl rfl hf.1) rfl ?_
            first | exact ⟨rfl, hf.2⟩ | exact ⟨by congr 5; omega, hf.2⟩ | (refine ⟨?_, hf.2⟩; rw [show (f : Int) - (f : Int) + 1 = 1 by omega])
      | g1 p1 p2 p3 p4 p5 p6 p7 => exact absurd ⟨p1, p2, p3, by omega, p5, p6⟩ HG.out
      | g2 p1 p2 p3 p4 p5 p6 p7 p8 => exact absurd ⟨p1, p2, p3, by omega, p5, p6⟩ HG.out
      | g3 p1 p2 p3 p4 p5 p6 p7 p8 p9 => exact absurd ⟨p1, p2, p3, by omega, p5, p6⟩ HG.out
      | g4 p1 p2 p3 p3b p4 p5 p6 p7 p8 p9 p10 => exact absurd ⟨p1, p2, .inr ⟨p3, p3b⟩, by omega, p5, p6⟩ HG.out
      | g5 p1 p2 p3 p3b p4 p5 p6 p7 p8 p9 p10 => exact absurd ⟨p1, p2, .inr ⟨p3, p3b⟩, by omega, p5, p6⟩ HG.out
      | g6 p1 p2 p3 p4 p5 p6 p7 p8 p9 => exact absurd ⟨p1, p2, .inl p3, by omega, p5, p6⟩ HG.out
    | false => exact absurd hbo.out (by simp)
end Go.Proofs.YtnpfmoalgphkcaaGreatDoor
