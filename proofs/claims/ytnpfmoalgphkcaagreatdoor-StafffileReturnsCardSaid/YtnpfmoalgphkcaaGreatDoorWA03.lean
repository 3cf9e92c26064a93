/-
  The walk of StafffileAway. Conditions: the numbers lie in memory as a slice of ints; the variables hold what their text lays.
  A slice of integers that came in: what they hold. Conditions: as the lemmas state.
-/
import Derived.Test.YtnpfmoalgphkcaaGreatDoorVA01
import Derived.Test.YtnpfmoalgphkcaaGreatDoorVA02
import Derived.Test.YtnpfmoalgphkcaaGreatDoorVA03
import Derived.Test.YtnpfmoalgphkcaaGreatDoorVA04
import Derived.Test.YtnpfmoalgphkcaaGreatDoorVA05
import Derived.Test.YtnpfmoalgphkcaaGreatDoorVA06
import Derived.Test.YtnpfmoalgphkcaaGreatDoorVA07
import Derived.Test.YtnpfmoalgphkcaaGreatDoorVA08
import Derived.Test.YtnpfmoalgphkcaaGreatDoorVA09
import Derived.Test.YtnpfmoalgphkcaaGreatDoorVA10
import Derived.Test.YtnpfmoalgphkcaaGreatDoorVA11
import Derived.Test.YtnpfmoalgphkcaaGreatDoorVA12
import Derived.Test.YtnpfmoalgphkcaaGreatDoorVA13
import Derived.Test.YtnpfmoalgphkcaaGreatDoorVA14
import Derived.Test.YtnpfmoalgphkcaaGreatDoorVA15
import Derived.Test.YtnpfmoalgphkcaaGreatDoorVA16
import Derived.Test.YtnpfmoalgphkcaaGreatDoorVA17
import Derived.Test.YtnpfmoalgphkcaaGreatDoorVA18
import Derived.Test.YtnpfmoalgphkcaaGreatDoorVA19
import Derived.Test.YtnpfmoalgphkcaaGreatDoorVA20
import Derived.Test.YtnpfmoalgphkcaaGreatDoorVA21
import Derived.Test.YtnpfmoalgphkcaaGreatDoorVA22
import Derived.Test.YtnpfmoalgphkcaaGreatDoorVA23
import Derived.Test.YtnpfmoalgphkcaaGreatDoorVA24
import Derived.Test.YtnpfmoalgphkcaaGreatDoorVA25
import Derived.Test.YtnpfmoalgphkcaaGreatDoorVA26
import Derived.Test.YtnpfmoalgphkcaaGreatDoorVA27
import Derived.Test.YtnpfmoalgphkcaaGreatDoorVA28
import Derived.Test.YtnpfmoalgphkcaaGreatDoorVA29
import Derived.Test.YtnpfmoalgphkcaaGreatDoorVA30
import Derived.Test.YtnpfmoalgphkcaaGreatDoorVA31
import Derived.Test.YtnpfmoalgphkcaaGreatDoorWA01
import Derived.Test.YtnpfmoalgphkcaaGreatDoorWA02
import Derived.Test.YtnpfmoalgphkcaaGreatDoorProg
import Derived.WalkKit
import Derived.WalkSpells
import Derived.WalkLawsBesides
import Derived.Lib.Hide
import Derived.Deep.QuietTactic
import Derived.BigQuiet
import Derived.Laws.Rows
import Derived.OwnWalk
import Derived.Lib.BufferWrite
import Derived.Lib.UnsafeStr
import Derived.Laws.IdiomStrings
import Derived.Laws.BytesArg
import Derived.Laws.BytesString
import Derived.Laws.OwnMore
import Derived.Lib.IndexLaws
import Derived.Lib.ItoaNum
import Derived.Lib.Atoi
import Derived.Laws.BitsAllLaws
import Derived.Laws.BitsLemmas
import Derived.Deep.MidRow
import Derived.Shelf.Strings.Builder1
import Derived.Shelf.Strings.Builder2
import Derived.Shelf.Strings.OnBuilder
import Derived.Shelf.Strings.BuilderF
import Derived.Shelf.Strings.BuilderK
import Derived.Shelf.Strings.Builder2Cap
import Derived.Shelf.Strconv.Atoi
import Derived.Shelf.Strconv.Itoa0
import Derived.Shelf.Strconv.Itoa1
import Derived.Shelf.LaysM
import Derived.Shelf.Strconv.Itoa2
import Derived.Shelf.Strconv.Itoa3
import Derived.Shelf.Strconv.AtoiErrFast
import Derived.Shelf.Strconv.ParseIntEmpty
import Derived.Shelf.Strconv.AtoiFail
import Derived.Shelf.Strconv.Clone
import Derived.Shelf.Strconv.SyntaxError
import Derived.Shelf.LaysC
import Derived.Shelf.Strconv.ToError
import Derived.Shelf.Strconv.AtoiErr
import Derived.Shelf.Strings.Search1
import Derived.Shelf.Strings.Search2
import Derived.Shelf.Strings.Search3
import Derived.Shelf.Strings.Cut
import Derived.Shelf.Strings.Shaped
import Derived.Shelf.Strings.Prefix
import Derived.Shelf.Unicode.DecodeSlow
import Derived.Shelf.Strings.BuilderCap
import Derived.Lib.AtoiErrMem
import Derived.Handy
import Derived.RangeFuncNested
import Derived.RangeFuncBound
import Derived.RangeFuncCalls
import Derived.RangeFuncLeaves
import Derived.Shelf.Abstract
import Derived.Shelf.RegionOpen
import Derived.OwnWalkIn
import Derived.Lib.Bytealg
import Derived.Lib.SlTrimSet
import Derived.Shelf.Strings.SlTrimAscii
import Derived.Laws.ResultCell
import Derived.RegionTactic
import Derived.Lib.Repeat
import Derived.Deep.RegionHeld3
import Derived.Lib.SlicesS
import Derived.TacticsInMore
import Derived.LoopNIn
import Derived.LoopIn
import Derived.Deep.DeepCutAuto
import Derived.Lib.Join
import Derived.Laws.Concat
import Derived.Maps.OwnSet
import Derived.Maps.Range
import Derived.Sort.EncStr
import Derived.Deep.RegionLaw
import Derived.Shelf.SlGeneric
import Derived.Shelf.SlicesQ.IndexFunc
import Derived.Sort.Walk0
import Derived.Deep.AppendLies
import Derived.Maps.AppendAt
import Derived.RangeFuncBox
import Derived.IntWalk
import Derived.Test.YtnpfmoalgphkcaaGreatDoorCards
import Derived.Test.YtnpfmoalgphkcaaGreatDoorTie
import Derived.Lib.SmallJoins
import Derived.SizedLaws
import Derived.Stop.LaidErr
import Derived.Deep.DeepWitnessRowRef
import Derived.ProofKit
import Derived.OpenShut
import Derived.Deep.DeepHandedRow
import Derived.Deep.DeepLaidRun
import Derived.Lib.LaidU8
import Derived.Shelf.Vars
import Derived.Laws.IdiomArrays
set_option linter.unusedVariables false
namespace Go.Proofs.YtnpfmoalgphkcaaGreatDoor
open Go Go.Proofs Go.RowKit Go.Lib

theorem away_clear {d s K Y T U S : Int} {n q : Nat} {b m : Int} (hg : MadeG d s b m) (h1 : 1 ≤ n) (h2 : n ≤ 20) (ht : MadeT d s n K Y T U) (hq : q < n) (hS : 0 ≤ S) (hS2 : S < s) :
    clearM [(K, Y, T, U)] (2 ^ q, Y, S, 1) = !(decide (bits .and .i64 K (2 ^ q) ≠ 0) && (decide (T ≤ S) && decide (S < T + U))) := by
  have hp : MadeT d s n (2 ^ q) Y S 1 := by
    refine ⟨⟨?_, ?_⟩, ht.2.1, ⟨hS, hS2⟩, by omega, by omega⟩
    · have e : (2 : Int) ^ q = ((2 ^ q : Nat) : Int) := by rw [Int.natCast_pow]; rfl
      have := Nat.one_le_two_pow (n := q)
      omega
    · have e : (2 : Int) ^ q = ((2 ^ q : Nat) : Int) := by rw [Int.natCast_pow]; rfl
      have e2 : (2 : Int) ^ n = ((2 ^ n : Nat) : Int) := by rw [Int.natCast_pow]; rfl
      have := Nat.pow_lt_pow_right (a := 2) (by omega) hq
      omega
  have s1 := made_sound hg h1 h2 ht
  have s2 := made_sound hg h1 h2 hp
  have hm : meetB K Y T U (2 ^ q) Y S 1 = decide (bits .and .i64 K (2 ^ q) ≠ 0) := by
    unfold meetB
    rw [s1, s2]
    simp
  have hU := ht.2.2.2.1
  unfold clearM
  rw [List.any_cons, List.any_nil, Bool.or_false]
  congr 1
  show overB K Y T U (2 ^ q) Y S 1 = _
  unfold overB betM
  rw [hm]
  by_cases h : bits .and .i64 K (2 ^ q) ≠ 0
  · rw [decide_eq_true h, if_pos rfl, Bool.true_and, Bool.true_and]
    rw [Bool.eq_iff_iff]
    simp only [decide_eq_true_eq, Bool.and_eq_true]
    rw [gap_neg]
    constructor
    · rintro ⟨k1, k2, k3, k4⟩; omega
    · rintro ⟨k1, k2⟩; omega
  · rw [decide_eq_false h, if_neg (by simp)]
    rfl
/-- What holds behind the making of the lecturer. -/
structure AK (w0 : World) (GB XB LB SB : Nat) (d s b m K Y T U : Int) (w : World) : Prop where
  bw : Below w0.heap.size w0 w
  g : Box4 w GB d s b m
  x : Box4 w XB K Y T U
  l : Box2 w LB (.string ⟨#[97]⟩) (.slice (some ⟨SB, 0, none⟩) 1 1)
  t : TimesIn w (fun k => k < LB) (some ⟨SB, 0, none⟩) [(K, Y, T, U)]
theorem AK.next {w0 w w' : World} {GB XB LB SB : Nat} {d s b m K Y T U : Int} (h : AK w0 GB XB LB SB d s b m K Y T U w) (k : Below w.heap.size w w') : AK w0 GB XB LB SB d s b m K Y T U w' :=
  ⟨h.bw.trans (k.mono h.bw.size), h.g.next k h.g.lt, h.x.next k h.x.lt, h.l.next k, h.t.kept (fun b hb => k.block b (Nat.lt_trans hb h.l.lt))⟩
theorem AK.first {w0 w : World} {GB : Nat} {d s b m : Int} (K Y T U : Int) (hT : T ≤ 9223372036854775807) (hb : Below w0.heap.size w0 w) (hg : Box4 w GB d s b m) :
    AK w0 GB w.heap.size (w.heap.size + 1 + 1) (w.heap.size + 1) d s b m K Y T U (((w.alloc (.cells #[.int .i64 K, .int .i64 Y, .int .i64 T, .int .i64 U] 26)).alloc (.cells #[.int .i64 K, .int .i64 Y, .int .i64 T, .int .i64 U] 26)).alloc (.cells #[.string ⟨#[97]⟩, .slice (some ⟨w.heap.size + 1, 0, none⟩) 1 1] 34)) := by
  have e1 := Box4.new w K Y T U 26
  have b1 := (Below.refl w.heap.size w).alloc (Nat.le_refl _) (.cells #[.int .i64 K, .int .i64 Y, .int .i64 T, .int .i64 U] 26)
  have s1 : (w.alloc (.cells #[.int .i64 K, .int .i64 Y, .int .i64 T, .int .i64 U] 26)).heap.size = w.heap.size + 1 := by simp
  generalize w.alloc (.cells #[.int .i64 K, .int .i64 Y, .int .i64 T, .int .i64 U] 26) = w1 at e1 b1 s1 ⊢
  have e2 := Box4.new w1 K Y T U 26
  have b2 := (Below.refl w1.heap.size w1).alloc (Nat.le_refl _) (.cells #[.int .i64 K, .int .i64 Y, .int .i64 T, .int .i64 U] 26)
  have s2 : (w1.alloc (.cells #[.int .i64 K, .int .i64 Y, .int .i64 T, .int .i64 U] 26)).heap.size = w.heap.size + 1 + 1 := by simp [s1]
  rw [s1] at e2
  generalize w1.alloc (.cells #[.int .i64 K, .int .i64 Y, .int .i64 T, .int .i64 U] 26) = w2 at e2 b2 s2 ⊢
  have e3 := Box2.new w2 (.string ⟨#[97]⟩) (.slice (some ⟨w.heap.size + 1, 0, none⟩) 1 1)
  have b3 := (Below.refl w2.heap.size w2).alloc (Nat.le_refl _) (.cells #[.string ⟨#[97]⟩, .slice (some ⟨w.heap.size + 1, 0, none⟩) 1 1] 34)
  rw [s2] at e3
  generalize w2.alloc (.cells #[.string ⟨#[97]⟩, .slice (some ⟨w.heap.size + 1, 0, none⟩) 1 1] 34) = w3 at e3 b3 ⊢
  have hx := (e1.next b2 e1.lt).next b3 (e1.next b2 e1.lt).lt
  have h2 := e2.next b3 e2.lt
  refine ⟨hb.trans ((b1.mono hb.size).trans ((b2.mono (by have := hb.size; omega)).trans (b3.mono (by have := hb.size; omega)))), ((hg.next b1 hg.lt).next b2 (hg.next b1 hg.lt).lt).next b3 (((hg.next b1 hg.lt).next b2 (hg.next b1 hg.lt).lt).lt), hx, e3, fun t ht => ?_, .inr ⟨w.heap.size + 1, 0, rfl, by omega, fun j t hj i v hv => ?_⟩⟩
  · rw [List.mem_singleton] at ht; subst ht; exact hT
  · match j, hj with
    | 0, hj =>
      obtain rfl : (K, Y, T, U) = t := by simpa using hj
      match i, hv with
      | 0, hv => exact h2.c0.trans hv
      | 1, hv => exact h2.c1.trans hv
      | 2, hv => exact h2.c2.trans hv
      | 3, hv => exact h2.c3.trans hv
      | i + 4, hv => simp [timeVs] at hv
    | j + 1, hj => simp at hj

set_option maxHeartbeats 16000000 in
set_option maxRecDepth 100000 in
theorem away_any (A : Option Addr) (L : List Int) (c : Nat) (week slot : Int) (hlen : L.length ≤ 9223372036854775807) (w : World) (hE : Env7 w) (h : IntsIn w w.heap.size A L) :
    Calls Tryz.prog 7 #[.slice A L.length c, .int .i64 week, .int .i64 slot] w fun e w' => e = .returned (.bool true) ∧ Below w.heap.size w w' := by
  have cL := light_any A L.length c w
  have cK := hid (fun w' (hb : Below w.heap.size w w') => S9.awake9_any w' (hE.below hb (Nat.le_refl _)))
  have cK' := cK.out
  unfold Says at cK'
  have cK := hid cK'
  clear cK'
  by_cases hl : L.length ≤ 400
  · rw [decide_eq_true hl] at cL
    have cR := hid (fun w h => roll_any A L c hl w h)
    have HI := hid h
    clear hE h
    go_enter Tryz.func7, Tryz.ntmps7
    go_wp2_with fail
    refine cL.mono ?_
    rintro e w' ⟨rfl, rfl⟩
    go_wp2_with fail
    refine (cR.out _ HI.out).mono ?_
    rintro e w1 ⟨rfl, hd1, hb1⟩
    have hgl := hd1.lt
    have HB : Hid (∀ W k, DE w1 w.heap.size c A L k W → Below w.heap.size w W) := hid (fun W k he => hb1.trans (he.toBelow (Nat.le_of_lt hgl) (Nat.le_refl _)))
    have cG := hid (grid_any w.heap.size c 0 A L w1 hd1)
    clear hd1 hb1 cL cR HI
    go_wp2_with fail
    refine cG.out.mono ?_
    rintro e w2 ⟨d, s, b, m, k2, rfl, hmg, he2⟩
    have HN := hid (fun (W : World) k n hn (h : DiceAt W w.heap.size A L c k) => next_at w.heap.size c k A L n hn W h)
    have cN := HN.out _ _ 8 (by omega) he2.d
    obtain ⟨r, hr⟩ : ∃ r, rollV L k2 8 = r := ⟨_, rfl⟩
    have hrr := rollV_range L k2 8 (by omega)
    rw [hr] at cN hrr
    generalize rollK L k2 = k3 at cN
    obtain ⟨q, rfl⟩ : ∃ q : Nat, r = (q : Int) := ⟨r.toNat, by omega⟩
    obtain ⟨n, hn⟩ : ∃ n, q + 1 = n := ⟨_, rfl⟩
    have hn1 : 1 ≤ n := by omega
    have hn2 : n ≤ 8 := by omega
    have hni : 1 + (q : Int) = (n : Int) := by omega
    have HE2 := hid he2
    have CN := hid cN
    have HMG := hid hmg
    have g1 : 1 ≤ d ∧ d ≤ 5 := hmg.1
    have g2 : 2 ≤ s ∧ s ≤ 8 := hmg.2.1
    clear cN he2 hr hrr hn cG hmg HN
    go_wp2_with fail
    refine CN.out.mono ?_
    rintro e w3 ⟨rfl, hd3, hR3⟩
    have he3 := HE2.out.next hd3 hR3
    have he4 := he3.alloc (.cells #[.int .i64 d, .int .i64 s, .int .i64 b, .int .i64 m] 24)
    have hc4 := Cells4.new w3 d s b m 24
    have hg3 := he3.p.size
    have HE4 := hid he4
    have HC4 := hid hc4
    clear he3 he4 hc4 hd3 hR3 CN HE2
    obtain ⟨g0, g1', g2', g3', _⟩ := HC4.out.box
    have hne : w3.heap.size ≠ w.heap.size := by omega
    have cT := hid (time_any w.heap.size c _ A L d s b m n hn1 (by omega) (by omega) (by omega) (by omega) (by omega) _ HE4.out.d)
    go_wp2_with fail
    refine cT.out.mono ?_
    rintro e w5 ⟨K, Y, T, U, k5, rfl, hmt, he5⟩
    have he5' := HE4.out.trans he5
    have hc5 := HC4.out.played he5.p hne
    have hb5 := HB.out _ _ he5'
    have hT63 : T ≤ 9223372036854775807 := by have := hmt.2.2.1.2; omega
    have hTU : (0 ≤ T ∧ T ≤ 8) ∧ (1 ≤ U ∧ T + U ≤ 8) ∧ (0 ≤ Y ∧ Y ≤ 5) := by obtain ⟨_, a, b', c', e⟩ := hmt; omega
    have hak := AK.first K Y T U hT63 hb5 hc5.box
    obtain ⟨v, hv⟩ : ∃ v, modI week (n : Int) = v := ⟨_, rfl⟩
    obtain ⟨S, hS⟩ : ∃ S, modI slot s = S := ⟨_, rfl⟩
    have hvr := modI_range week (n : Int) (by omega)
    have hSr := modI_range slot s (by omega)
    have cV := fun w => mod_any week (n : Int) (by omega) w
    have cS := fun w => mod_any slot s (by omega) w
    rw [hv] at cV hvr
    rw [hS] at cS hSr
    obtain ⟨p, rfl⟩ : ∃ p : Nat, v = (p : Int) := ⟨v.toNat, by omega⟩
    have hp : p < n := by omega
    have hcl := away_clear HMG.out hn1 (by omega) hmt hp hSr.1 hSr.2
    have hpw : (2 : Int) ^ p ≤ 256 ∧ 1 ≤ (2 : Int) ^ p := by
      have e : (2 : Int) ^ p = ((2 ^ p : Nat) : Int) := by rw [Int.natCast_pow]; rfl
      have h1 := Nat.one_le_two_pow (n := p)
      have h2 : 2 ^ p ≤ 2 ^ 8 := Nat.pow_le_pow_right (by omega) (by omega)
      omega
    have CV := hid cV
    have CS := hid cS
    have HCL := hid hcl
    have HAK := hid hak
    have HPW := hid hpw
    clear he5 he5' hc5 hb5 cT hmt HE4 HC4 HB g0 g1' g2' g3' hg3 hak hcl cV cS hv hS hT63 hvr hne hgl hpw
    go_upto_region 7 with fail
    generalize World.alloc _ _ = wx at HAK ⊢
    generalize w5.heap.size = XB at HAK ⊢
    generalize w3.heap.size = GB at HAK ⊢
    have HS0 := hid HAK.out
    obtain ⟨g0, g1', g2', g3', gl⟩ := HAK.out.g
    obtain ⟨x0, x1, x2, x3, xl⟩ := HAK.out.x
    have hu : IntKind.u64.wrap (p : Int) = (p : Int) := by
      exact IntWalk.u64_in _ (by omega)
    have hmn : min p 64 = p := by omega
    have hpp : IntKind.i64.wrap ((2 : Int) ^ p) = (2 : Int) ^ p := IntWalk.i64_in _ (by have := HPW.out; omega)
    go_cut [12] (fun pv wz => ∃ PB : Nat, pv = .pointer (some ⟨PB, 0, none⟩) ∧ Hid (Box4 wz PB (2 ^ p) Y S 1) ∧ Hid (AK w GB XB (XB + 1 + 1) (XB + 1) d s b m K Y T U wz))
    case first =>
      have hk' := HS0.out
      go_region_held3 (fun w' => w'.cell? ⟨GB, 1, none⟩ = some (.int .i64 s) ∧ w'.cell? ⟨XB, 1, none⟩ = some (.int .i64 Y))
        (first | with_reducible exact ⟨hk'.g.c1, hk'.x.c1⟩ | with_reducible exact ⟨(hk'.next (Below.refl _ _).drew).g.c1, (hk'.next (Below.refl _ _).drew).x.c1⟩ | exact ⟨(hk'.next (((Below.refl _ wx).alloc (Nat.le_refl _) _).drew)).g.c1, (hk'.next (((Below.refl _ wx).alloc (Nat.le_refl _) _).drew)).x.c1⟩)
        (first
          | (go_at_call 30; (with_reducible refine (CV.out _).mono ?_); rintro e wq ⟨rfl, rfl⟩)
          | (go_at_call 30; (with_reducible refine (CS.out _).mono ?_); rintro e wq ⟨rfl, rfl⟩))
      all_goals
        go_wp2_with fail
        go_meet
        exact ⟨wx.heap.size, rfl, hid ((Box4.new wx (2 ^ p) Y S 1 26).next (Below.refl _ _).drew (Box4.new wx (2 ^ p) Y S 1 26).lt), hid (hk'.next ((Below.refl _ wx).alloc (Nat.le_refl _) _).drew)⟩
    case rest =>
      obtain ⟨PB, rfl, HPB, HA2⟩ := hcut
      clear HAK HS0 g0 g1' g2' g3' gl x0 x1 x2 x3 xl hu hmn hpp CV CS
      obtain ⟨x0, x1, x2, x3, _⟩ := HA2.out.x
      obtain ⟨p0, p1, p2, p3, _⟩ := HPB.out
      clear p1 p3 x1
      have hF := fun (W : World) (hk : AK w GB XB (XB + 1 + 1) (XB + 1) d s b m K Y T U W) => free_any ([97], [(K, Y, T, U)]) (some ⟨XB + 1, 0, none⟩, 1) (2 ^ p, Y, S, 1) (by have := hTU; show S ≤ _; omega) W ⟨hk.t.mono (fun k h => Nat.lt_trans h hk.l.lt), Nat.le_refl _, (by show (1 : Nat) ≤ 9223372036854775807; omega)⟩
      unfold Says lectV timeV at hF
      obtain ⟨B, hB⟩ : ∃ B, bits .and .i64 K (2 ^ p) = B := ⟨_, rfl⟩
      have hcl := HCL.out
      rw [hB] at hcl
      obtain ⟨V, hV⟩ : ∃ V, (2 : Int) ^ p = V := ⟨_, rfl⟩
      rw [hV] at hcl hF hB p0 HPB
      obtain ⟨F, hFF⟩ : ∃ F, clearM [(K, Y, T, U)] (V, Y, S, 1) = F := ⟨_, rfl⟩
      rw [hFF] at hcl
      have hF2 : ∀ (W : World), AK w GB XB (XB + 1 + 1) (XB + 1) d s b m K Y T U W → Calls Tryz.prog 10 #[.agg #[.string ⟨#[97]⟩, .slice (some ⟨XB + 1, 0, none⟩) 1 1], .agg #[.int .i64 V, .int .i64 Y, .int .i64 S, .int .i64 1]] W fun e w' => e = .returned (.bool F) ∧ Below W.heap.size W w' := fun W hk => by
        have := hF W hk
        rw [show clearM ([97], [(K, Y, T, U)]).2 (V, Y, S, 1) = F from hFF] at this
        exact this
      clear hF hV HCL hFF HPW HMG
      by_cases c1 : B = 0
      · have d1 : (B != 0) = false := by simp [c1]
        have d2 : (B == 0) = true := by simp [c1]
        obtain rfl : F = true := by rw [hcl]; simp [c1]
        have HFR := hid hF2
        clear hF2 hcl c1
        go_wp2_with fail
        refine (cK.out _ HA2.out.bw).mono ?_
        rintro e w6 ⟨rfl, hb6⟩
        have HA6 := hid (HA2.out.next hb6)
        have HP6 := hid (HPB.out.next hb6 HPB.out.lt)
        clear hb6 x0 x2 x3 p0 p2 cK
        obtain ⟨l0, l1⟩ := HA6.out.l.cells
        obtain ⟨p0, p1, p2, p3, _⟩ := HP6.out
        go_wp2_with fail
        refine (HFR.out _ HA6.out).mono ?_
        rintro e w7 ⟨rfl, hb7⟩
        have HB7 := hid (HA6.out.bw.trans (hb7.mono HA6.out.bw.size))
        clear hb7 l0 l1 p0 p1 p2 p3
        go_wp2
        go_ret
        exact ⟨rfl, HB7.out⟩
      · have d1 : (B != 0) = true := by simpa using c1
        have d2 : (B == 0) = false := by simpa using c1
        by_cases c2 : T ≤ S
        · have e2 : decide (T ≤ S) = true := decide_eq_true c2
          by_cases c3 : S < T + U
          · have e3 : decide (S < T + U) = true := decide_eq_true c3
            obtain rfl : F = false := by rw [hcl]; simp [c1, c2, c3]
            have HFR := hid hF2
            clear hF2 hcl c1
            go_wp2_with fail
            refine (cK.out _ HA2.out.bw).mono ?_
            rintro e w6 ⟨rfl, hb6⟩
            have HA6 := hid (HA2.out.next hb6)
            have HP6 := hid (HPB.out.next hb6 HPB.out.lt)
            clear hb6 x0 x2 x3 p0 p2 cK
            obtain ⟨l0, l1⟩ := HA6.out.l.cells
            obtain ⟨p0, p1, p2, p3, _⟩ := HP6.out
            go_wp2_with fail
            refine (HFR.out _ HA6.out).mono ?_
            rintro e w7 ⟨rfl, hb7⟩
            have HB7 := hid (HA6.out.bw.trans (hb7.mono HA6.out.bw.size))
            clear hb7 l0 l1 p0 p1 p2 p3
            go_wp2
            go_ret
            exact ⟨rfl, HB7.out⟩
          · have e3 : decide (S < T + U) = false := decide_eq_false c3
            obtain rfl : F = true := by rw [hcl]; simp [c3]
            have HFR := hid hF2
            clear hF2 hcl c1
            go_wp2_with fail
            refine (cK.out _ HA2.out.bw).mono ?_
            rintro e w6 ⟨rfl, hb6⟩
            have HA6 := hid (HA2.out.next hb6)
            have HP6 := hid (HPB.out.next hb6 HPB.out.lt)
            clear hb6 x0 x2 x3 p0 p2 cK
            obtain ⟨l0, l1⟩ := HA6.out.l.cells
            obtain ⟨p0, p1, p2, p3, _⟩ := HP6.out
            go_wp2_with fail
            refine (HFR.out _ HA6.out).mono ?_
            rintro e w7 ⟨rfl, hb7⟩
            have HB7 := hid (HA6.out.bw.trans (hb7.mono HA6.out.bw.size))
            clear hb7 l0 l1 p0 p1 p2 p3
            go_wp2
            go_ret
            exact ⟨rfl, HB7.out⟩
        · have e2 : decide (T ≤ S) = false := decide_eq_false c2
          obtain rfl : F = true := by rw [hcl]; simp [c2]
          have HFR := hid hF2
          clear hF2 hcl c1
          go_wp2_with fail
          refine (cK.out _ HA2.out.bw).mono ?_
          rintro e w6 ⟨rfl, hb6⟩
          have HA6 := hid (HA2.out.next hb6)
          have HP6 := hid (HPB.out.next hb6 HPB.out.lt)
          clear hb6 x0 x2 x3 p0 p2 cK
          obtain ⟨l0, l1⟩ := HA6.out.l.cells
          obtain ⟨p0, p1, p2, p3, _⟩ := HP6.out
          go_wp2_with fail
          refine (HFR.out _ HA6.out).mono ?_
          rintro e w7 ⟨rfl, hb7⟩
          have HB7 := hid (HA6.out.bw.trans (hb7.mono HA6.out.bw.size))
          clear hb7 l0 l1 p0 p1 p2 p3
          go_wp2
          go_ret
          exact ⟨rfl, HB7.out⟩
  · rw [decide_eq_false hl] at cL
    clear hE h
    go_enter Tryz.func7, Tryz.ntmps7
    go_wp2_with fail
    refine cL.mono ?_
    rintro e w' ⟨rfl, rfl⟩
    go_wp2_with fail
    refine (cK.out _ (Below.refl _ _)).mono ?_
    rintro e w2 ⟨rfl, hb2⟩
    have HB2 := hid hb2
    clear hb2
    go_wp2
    go_ret
    exact ⟨rfl, HB2.out⟩
end Go.Proofs.YtnpfmoalgphkcaaGreatDoor

set_option linter.unusedVariables false
set_option maxRecDepth 100000
namespace Go.Proofs.YtnpfmoalgphkcaaGreatDoor
open Go Go.Proofs Go.ChangeShapes Go.WideShapes Go.ChangeAt Go.RowKit

theorem cells3 : Tryz.prog.cellsOf 3 = 1 := by kernel_rfl
section
variable {H : Type} {enc : TypeId × Value → H}
theorem open_intcells {W : World} {fuel : Nat} {v : Value} {x : DataW H × List MemPlace} (hf : DataW.trod enc Tryz.prog W 0 (fun _ => true) true fuel 49 [v] = some x) :
    ∃ A L c, v = .slice A (List.length L) c ∧ IntsIn W W.heap.size A L ∧ L.length ≤ 9223372036854775807 := by
  rcases open_ints Tryz.underlying49 Tryz.underlying3 cells3 hf with ⟨hcs, _⟩ | ⟨a, len, cap, zs, hcs, _, hl, hm, hz, _, hcell, hwz⟩
  · simp at hcs
    subst hcs
    exact ⟨none, [], 0, rfl, .inl rfl, by simp⟩
  · simp at hcs
    subst hcs
    have hz' : zs.length = cap := by simpa using hz
    refine ⟨some a, zs.take len, cap, ?_, ?_, ?_⟩
    · rw [List.length_take, Nat.min_eq_left (by omega)]
    · rcases Nat.eq_zero_or_pos len with h0 | h0
      · subst h0; exact .inl (by simp)
      · obtain ⟨b, off, rfl, hc⟩ := ints_at hcell (by omega)
        refine .inr ⟨b, off, rfl, World.block_lt_of_cell? W _ (hc 0 (by omega)), fun j u hu => ?_⟩
        have hj : j < len := by
          have := (List.getElem?_eq_some_iff.1 hu).1
          simp at this
          omega
        rw [hc j (by omega)]
        rw [List.getElem?_take, if_pos hj, List.getElem?_eq_getElem (by omega)] at hu
        simp only [Option.some.injEq] at hu
        subst hu
        have e : zs.getD j 0 = zs[j] := by simp [List.getD, List.getElem?_eq_getElem (show j < zs.length by omega)]
        rw [e]
    · unfold maxLen at hm
      rw [List.length_take]
      omega
theorem open_intlist {W : World} {base : Nat} {v : Value} {d : DataW H} {p : List MemPlace} (hv : Value.okWide Tryz.prog W .any base 49 v) (h : DataW.Trod enc Tryz.prog W 0 (fun _ => true) true 49 v d p) :
    ∃ A L c, v = .slice A (List.length L) c ∧ IntsIn W W.heap.size A L ∧ L.length ≤ 9223372036854775807 := by
  obtain ⟨a0, len, cap, rfl⟩ := okWide_slice Tryz.underlying49 hv
  obtain ⟨fuel, hf⟩ := h
  exact open_intcells hf
end
end Go.Proofs.YtnpfmoalgphkcaaGreatDoor

