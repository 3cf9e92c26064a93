/-
  The walk of CoursefileValid. Conditions: the classes lie in memory; the variables hold what their text lays.
-/
import Derived.Test.YtigdcgklpapfbaaGreatDoorVN01
import Derived.Test.YtigdcgklpapfbaaGreatDoorVN02
import Derived.Test.YtigdcgklpapfbaaGreatDoorVN03
import Derived.Test.YtigdcgklpapfbaaGreatDoorVN04
import Derived.Test.YtigdcgklpapfbaaGreatDoorVN05
import Derived.Test.YtigdcgklpapfbaaGreatDoorVN06
import Derived.Test.YtigdcgklpapfbaaGreatDoorVN07
import Derived.Test.YtigdcgklpapfbaaGreatDoorVN08
import Derived.Test.YtigdcgklpapfbaaGreatDoorVN09
import Derived.Test.YtigdcgklpapfbaaGreatDoorVN10
import Derived.Test.YtigdcgklpapfbaaGreatDoorVN11
import Derived.Test.YtigdcgklpapfbaaGreatDoorVN12
import Derived.Test.YtigdcgklpapfbaaGreatDoorVN13
import Derived.Test.YtigdcgklpapfbaaGreatDoorVN14
import Derived.Test.YtigdcgklpapfbaaGreatDoorVN15
import Derived.Test.YtigdcgklpapfbaaGreatDoorVN16
import Derived.Test.YtigdcgklpapfbaaGreatDoorVN17
import Derived.Test.YtigdcgklpapfbaaGreatDoorVN18
import Derived.Test.YtigdcgklpapfbaaGreatDoorVN19
import Derived.Test.YtigdcgklpapfbaaGreatDoorVN20
import Derived.Test.YtigdcgklpapfbaaGreatDoorVN21
import Derived.Test.YtigdcgklpapfbaaGreatDoorVN22
import Derived.Test.YtigdcgklpapfbaaGreatDoorVN23
import Derived.Test.YtigdcgklpapfbaaGreatDoorVN24
import Derived.Test.YtigdcgklpapfbaaGreatDoorVN25
import Derived.Test.YtigdcgklpapfbaaGreatDoorVN26
import Derived.Test.YtigdcgklpapfbaaGreatDoorVN27
import Derived.Test.YtigdcgklpapfbaaGreatDoorVN28
import Derived.Test.YtigdcgklpapfbaaGreatDoorVN29
import Derived.Test.YtigdcgklpapfbaaGreatDoorVN30
import Derived.Test.YtigdcgklpapfbaaGreatDoorVN31
import Derived.Test.YtigdcgklpapfbaaGreatDoorVN32
import Derived.Test.YtigdcgklpapfbaaGreatDoorVN33
import Derived.Test.YtigdcgklpapfbaaGreatDoorVN34
import Derived.Test.YtigdcgklpapfbaaGreatDoorVN35
import Derived.Test.YtigdcgklpapfbaaGreatDoorVN36
import Derived.Test.YtigdcgklpapfbaaGreatDoorVN37
import Derived.Test.YtigdcgklpapfbaaGreatDoorVN38
import Derived.Test.YtigdcgklpapfbaaGreatDoorVN39
import Derived.Test.YtigdcgklpapfbaaGreatDoorVN40
import Derived.Test.YtigdcgklpapfbaaGreatDoorVN41
import Derived.Test.YtigdcgklpapfbaaGreatDoorProg
import Derived.WalkKit
import Derived.WalkSpells
import Derived.WalkLawsBesides
import Derived.Lib.Hide
import Derived.Deep.QuietTactic
import Derived.BigQuiet
import Derived.Laws.Rows
import Derived.OwnWalk
import Derived.Lib.BufferWrite
import Derived.Lib.UnsafeStr
import Derived.Laws.IdiomStrings
import Derived.Laws.BytesArg
import Derived.Laws.BytesString
import Derived.Laws.OwnMore
import Derived.Lib.IndexLaws
import Derived.Lib.ItoaNum
import Derived.Lib.Atoi
import Derived.Laws.BitsAllLaws
import Derived.Laws.BitsLemmas
import Derived.Deep.MidRow
import Derived.Shelf.Strings.Builder1
import Derived.Shelf.Strings.Builder2
import Derived.Shelf.Strings.OnBuilder
import Derived.Shelf.Strings.Trim
import Derived.Shelf.Small.Bits
import Derived.Shelf.Small.Strs
import Derived.Shelf.Small.Wraps
import Derived.Shelf.Strings.BuilderF
import Derived.Shelf.Strings.BuilderK
import Derived.Shelf.Strings.Builder2Cap
import Derived.Shelf.Strconv.Atoi
import Derived.Shelf.Strconv.Itoa0
import Derived.Shelf.Strconv.Itoa1
import Derived.Shelf.LaysM
import Derived.Shelf.Strconv.Itoa2
import Derived.Shelf.Strconv.Itoa3
import Derived.Shelf.Strconv.AtoiErrFast
import Derived.Shelf.Strconv.ParseIntEmpty
import Derived.Shelf.Strconv.AtoiFail
import Derived.Shelf.Strconv.Clone
import Derived.Shelf.Strconv.SyntaxError
import Derived.Shelf.LaysC
import Derived.Shelf.Strconv.ToError
import Derived.Shelf.Strconv.AtoiErr
import Derived.Shelf.Strings.Search1
import Derived.Shelf.Strings.Search2
import Derived.Shelf.Strings.Search3
import Derived.Shelf.Strings.Cut
import Derived.Shelf.Strings.Shaped
import Derived.Shelf.Strings.Prefix
import Derived.Shelf.Strings.Runes
import Derived.Shelf.Strings.AsciiSet
import Derived.Shelf.Bits.Mul64
import Derived.Shelf.Strings.Repeat
import Derived.Shelf.Unicode.DecodeSlow
import Derived.Shelf.Strings.BuilderCap
import Derived.Shelf.Slices.Turned
import Derived.Ground.SlgfProg
import Derived.Shelf.SlicesE.IndexFunc
import Derived.Lib.AtoiErrMem
import Derived.Handy
import Derived.RangeFuncNested
import Derived.RangeFuncBound
import Derived.RangeFuncCalls
import Derived.RangeFuncLeaves
import Derived.Shelf.Abstract
import Derived.Shelf.RegionOpen
import Derived.OwnWalkIn
import Derived.Lib.Bytealg
import Derived.Lib.SlTrimSet
import Derived.Shelf.Strings.SlTrimAscii
import Derived.Laws.ResultCell
import Derived.RegionTactic
import Derived.Lib.Repeat
import Derived.Deep.RegionHeld3
import Derived.Lib.SlicesS
import Derived.TacticsInMore
import Derived.LoopNIn
import Derived.LoopIn
import Derived.Deep.DeepCutAuto
import Derived.Lib.Join
import Derived.Laws.Concat
import Derived.Maps.OwnSet
import Derived.Maps.Range
import Derived.Sort.EncStr
import Derived.Deep.RegionLaw
import Derived.Sort.Grow
import Derived.Shelf.SlGeneric
import Derived.Shelf.SlSortCmp.NoneTotal
import Derived.Ground.SlsfProg
import Derived.Sort.OwnSorted
import Derived.RangeFuncBox
import Derived.Sort.Walk0
import Derived.Lib.AppendIntMem
import Derived.Lib.QuietBelow
import Derived.WalkMore
import Derived.Maps.AppendAt
import Derived.Deep.CutBlock
import Derived.StillTailTactics
import Derived.Deep.AppendLies
import Derived.Shelf.Sort.Plain
import Derived.Shelf.Slices.In.SortNone
import Derived.Ground.NamesProg
import Derived.Shelf.SlicesQ.Contains
import Derived.Ground.SlgqProg
import Derived.Laws.StructEq
set_option linter.unusedVariables false
namespace Go.Proofs.YtigdcgklpapfbaaGreatDoor.S10
open Go Go.Proofs Go.RowKit Go.Lib Go.Proofs.YtigdcgklpapfbaaGreatDoor

/-- Behind both calls of Write: the box of the grid. -/
structure VKC (w0 w2 : World) (d s b m : Int) (w : World) : Prop where
  g : Box4 w w0.heap.size d s b m
  b : Below w2.heap.size w2 w
  a : Below w0.heap.size w0 w
theorem VKC.next {w0 w2 w w' : World} {d s b m : Int} (h : VKC w0 w2 d s b m w) (k : Below w.heap.size w w') : VKC w0 w2 d s b m w' :=
  ⟨h.g.next k h.g.lt, h.b.trans (k.mono h.b.size), h.a.trans (k.mono h.a.size)⟩
/-- And two classes of the list, and times. -/
structure VRC (w0 w2 : World) (d s b m : Int) (L : List TimeD) (fb o o' : Nat) (x x' : ClassD) (q q' : ClassA) (T : List (Option Addr)) (w : World) : Prop where
  v : VKC w0 w2 d s b m w
  c : ClassAt w fb o x q
  e : ClassAt w fb o' x' q'
  z : fb < w0.heap.size
  t : ∀ A ∈ T, TimesIn w (fun k => k < w.heap.size) A L
section
variable {w0 w2 w w' : World} {d s b m : Int} {L : List TimeD} {fb o o' : Nat} {x x' : ClassD} {q q' : ClassA} {T : List (Option Addr)}
theorem VRC.next (h : VRC w0 w2 d s b m L fb o o' x x' q q' T w) (k : Below w.heap.size w w') : VRC w0 w2 d s b m L fb o o' x x' q q' T w' := by
  have e := k.block fb (Nat.lt_of_lt_of_le h.z h.v.a.size)
  exact ⟨h.v.next k, h.c.kept e, h.e.kept e, h.z, fun A hA => ((h.t A hA).kept (fun j hj => k.block j hj)).mono (fun j hj => Nat.lt_of_lt_of_le hj k.size)⟩
theorem VRC.more (h : VRC w0 w2 d s b m L fb o o' x x' q q' T w) {A : Option Addr} (hA : TimesIn w (fun k => k < w.heap.size) A L) : VRC w0 w2 d s b m L fb o o' x x' q q' (A :: T) w :=
  ⟨h.v, h.c, h.e, h.z, fun B hB => by
    rcases List.mem_cons.1 hB with rfl | hB
    · exact hA
    · exact h.t B hB⟩
theorem VRC.none (h : VRC w0 w2 d s b m L fb o o' x x' q q' T w) : VRC w0 w2 d s b m L fb o o' x x' q q' [] w := ⟨h.v, h.c, h.e, h.z, fun B hB => by cases hB⟩
end

set_option maxHeartbeats 16000000 in
set_option maxRecDepth 100000 in
theorem kvalidLaw_any (d s b m n : Int) (A : Option Addr) (l : List ClassD) (c : Nat) (w : World) (h : ClassesIn w (fun k => k < w.heap.size) A l) (hin : ∀ x ∈ l, ∀ t ∈ x.starts, t.2 ≤ 9223372036854775807) (hlc : l.length ≤ 9223372036854775807) (hE : Env7 w) (hR : REnv7 w) :
    Calls Tryz.prog 3 #[.slice A l.length c, .agg #[.int .i64 d, .int .i64 s, .int .i64 b, .int .i64 m], .int .i64 n] w fun e w' => e = .returned (.bool true) ∧ Below w.heap.size w w' := by
  have hG := Box4.new w d s b m 24
  have hb1 := (Below.refl w.heap.size w).alloc (Nat.le_refl _) (.cells #[.int .i64 d, .int .i64 s, .int .i64 b, .int .i64 m] 24)
  obtain ⟨w1, hw1⟩ : ∃ w1, w.alloc (.cells #[.int .i64 d, .int .i64 s, .int .i64 b, .int .i64 m] 24) = w1 := ⟨_, rfl⟩
  rw [hw1] at hG hb1
  have hk : VKC w w d s b m w1 := ⟨hG, hb1, hb1⟩
  have HK := hid hk
  have hini : ∀ w', Below w.heap.size w w' → ClassesIn w' (fun k => k < w'.heap.size) A l := fun w' hb => (h.below hb).mono (fun k hk => Nat.lt_of_lt_of_le hk hb.size)
  have cW := fun w' (hb : Below w.heap.size w w') => kwrite_any d s b m n A l c w' (hini w' hb) hin (hE.below hb (Nat.le_refl _))
  have cR := fun w' (hb : Below w.heap.size w w') => rkwrite_any d s b m n A l c w' (hini w' hb) (hR.below hb (Nat.le_refl _))
  have cV := fun w' (hb : Below w.heap.size w w') => kvalid_any d s b m n A l c w' (hini w' hb) hin
  have cQ := fun w' (hb : Below w.heap.size w w') => rkvalid_any d s b m n A l c w' (hini w' hb)
  have hA := fun w' (hb : Below w.heap.size w w') => awake_any w' (hE.below hb (Nat.le_refl _))
  unfold WriteOut at cW cR
  unfold Says at cV cQ hA
  obtain ⟨⟨RL, RE⟩, hO⟩ : ∃ O, writeK d s b m n l = O := ⟨_, rfl⟩
  obtain ⟨V, hV⟩ : ∃ V, validK d s b m n l = V := ⟨_, rfl⟩
  rw [hO] at cW cR
  rw [hV] at cV cQ
  have CW := hid cW
  have CR := hid cR
  have CV := hid cV
  have CQ := hid cQ
  have CA := hid hA
  have HH := hid h
  have HIN := hid hin
  have HW1 := hid hw1
  clear hk h hE hR hini hin cW cR cV cQ hA hO hV hG hb1 hw1
  go_enter Tryz.func3, Tryz.ntmps3
  go_wp2_with fail
  (try rw [HW1.out])
  refine (CW.out _ HK.out.a).mono ?_
  rintro e wa ⟨⟨v1, L1, hL1, rfl, hr1⟩, hba⟩
  have HK1 := hid (HK.out.next hba)
  have HR1 := hid hr1
  clear HK hba hr1
  obtain ⟨g0, g1, g2, g3, _⟩ := HK1.out.g
  go_wp2_with fail
  refine (CR.out _ HK1.out.a).mono ?_
  rintro e w2 ⟨⟨v2, L2, hL2, rfl, hr2⟩, hb2⟩
  obtain ⟨A1, c1, rfl, hl1, hm1, hi1⟩ := HR1.out.rowsIn
  obtain ⟨A2, c2, rfl, hl2, hm2, hi2⟩ := hr2.rowsIn
  rw [hL1] at hi1
  rw [hL2] at hi2
  have e1 : L1.length = RL.length := by rw [← hL1, List.length_map]
  have e2 : L2.length = RL.length := by rw [← hL2, List.length_map]
  rw [e1] at hl1
  rw [e2] at hl2
  rw [e1, e2]
  have hi1' : RowsIn w2 (fun k => k < w2.heap.size) A1 RL := (hi1.kept (fun k hk => hb2.block k hk.2)).mono (fun k hk => Nat.lt_of_lt_of_le hk.2 hb2.size)
  have hi2' : RowsIn w2 (fun k => k < w2.heap.size) A2 RL := hi2.mono (fun k hk => hk.2)
  have hkz : VKC w w2 d s b m w2 := ⟨(HK1.out.next hb2).g, Below.refl _ _, (HK1.out.next hb2).a⟩
  have HKZ := hid hkz
  have cA : Hid (∀ wx, VKC w w2 d s b m wx → Calls Tryz.prog 15 #[] wx fun e w' => e = .returned (.bool true) ∧ VKC w w2 d s b m w') := hid fun wx h => (CA.out wx h.a).mono fun e w' ⟨he, hb⟩ => ⟨he, h.next hb⟩
  have cV : Hid (∀ wx, VKC w w2 d s b m wx → Calls Tryz.prog 16 #[.slice A l.length c, .agg #[.int .i64 d, .int .i64 s, .int .i64 b, .int .i64 m], .int .i64 n] wx fun e w' => e = .returned (.int .i64 V) ∧ VKC w w2 d s b m w') := hid fun wx h => (CV.out wx h.a).mono fun e w' ⟨he, hb⟩ => ⟨he, h.next hb⟩
  have cQ : Hid (∀ wx, VKC w w2 d s b m wx → Calls Tryz.prog 17 #[.slice A l.length c, .agg #[.int .i64 d, .int .i64 s, .int .i64 b, .int .i64 m], .int .i64 n] wx fun e w' => e = .returned (.int .i64 V) ∧ VKC w w2 d s b m w') := hid fun wx h => (CQ.out wx h.a).mono fun e w' ⟨he, hb⟩ => ⟨he, h.next hb⟩
  have cS : Hid (∀ wx, VKC w w2 d s b m wx → Calls Tryz.prog 18 #[.slice A1 RL.length c1, .slice A2 RL.length c2] wx fun e w' => e = .returned (.bool true) ∧ VKC w w2 d s b m w') := hid fun wx h =>
    (sameLists_any A1 A2 RL RL c1 c2 _ _ wx (hi1'.kept (fun k hk => h.b.block k hk)) (hi2'.kept (fun k hk => h.b.block k hk)) (by omega)).mono fun e w' ⟨he, q, hw⟩ => ⟨by rw [he, decide_eq_true rfl], by rw [hw]; exact h.next (S3.below_drewN (Below.refl _ _) q)⟩
  clear CA CV CQ CW CR hi1 hi2 hi1' hi2' hl1 hl2 hm1 hm2 hr2 HR1 HK1 hb2 g0 g1 g2 g3 hL1 hL2 e1 e2 hkz
  go_wp2
  go_loopw [11] (fun iv wr => ∃ i : Nat, iv = .int .i64 (i : Int) ∧ i ≤ l.length ∧ Hid (VKC w w2 d s b m wr)) (fun iv _ => l.length - (RowKit.intOf iv).toNat)
  case atStart => exact ⟨0, rfl, Nat.zero_le _, HKZ⟩
  case round =>
    obtain ⟨i, rfl, hi, hK⟩ := hrel
    clear HKZ
    by_cases hlt : i < l.length
    · have hltz : (i : Int) < (l.length : Int) := by omega
      have h0n : 0 < l.length := by omega
      have h0z : (0 : Int) < (l.length : Int) := by omega
      have dk : decide (l.length ≤ i) = false := decide_eq_false (by omega)
      have dk0 : decide (l.length ≤ 0) = false := decide_eq_false (by omega)
      have hC := HH.out.below hK.out.a
      obtain ⟨fb, fo, q, rfl, hfb, hri, hc⟩ := hC.at_ hlt
      obtain ⟨fb', fo', q', he', _, hri', hc'⟩ := hC.at_ h0n
      obtain ⟨rfl, rfl⟩ : fb = fb' ∧ fo = fo' := by injection he' with he'; injection he' with h1 h2; exact ⟨h1, h2⟩
      have hinx := HIN.out _ (List.getElem_mem hlt)
      obtain ⟨x, hx⟩ : ∃ x, l[i] = x := ⟨_, rfl⟩
      obtain ⟨x', hx'⟩ : ∃ x, l[0] = x := ⟨_, rfl⟩
      rw [hx] at hri hc hinx
      rw [hx'] at hri' hc'
      have hk' : VRC w w2 d s b m (timesC d s b m x) fb (fo + i * 9) (fo + 0 * 9) x x' q q' [] wr := ⟨hK.out, hc, hc', hfb, fun A hA => by cases hA⟩
      obtain ⟨o', ho'⟩ : ∃ o', fo + 0 * 9 = o' := ⟨_, rfl⟩
      rw [ho'] at hk'
      have ho2 : fo = o' := by omega
      clear hx hx' he' hc hc' ho'
      subst ho2
      have HCX := hid hk'.c
      have HK' := hid hk'
      have HRI := hid (hri.kept (fun k hk => (hK.out.a.block k hk).symm))
      clear hk' hri hri' hC
      by_cases hp : x.pats.length ≤ 20
      · have hpz : ¬ (20 : Int) < (x.pats.length : Int) := by omega
        have hpd : decide (20 < x.pats.length) = false := decide_eq_false (by omega)
        by_cases ht : x.starts.length ≤ 60
        · have htz : ¬ (60 : Int) < (x.starts.length : Int) := by omega
          have htd : decide (60 < x.starts.length) = false := decide_eq_false (by omega)
          have htot := tot_le (d := d) (s := s) (b := b) (m := m) hp ht
          have hlen := timesC_len htot
          have hle := timesC_le (d := d) (s := s) (b := b) (m := m) hinx
          have cT := fun W (hb : Below w.heap.size w W) => times_all d s b m x q W ((HRI.out.kept (fun k hk => hb.block k hk)).mono (fun k hk => Nat.lt_of_lt_of_le hk hb.size)) htot
          have cU := fun W (hb : Below w.heap.size w W) => rtimes_all d s b m x q W ((HRI.out.kept (fun k hk => hb.block k hk)).mono (fun k hk => Nat.lt_of_lt_of_le hk hb.size)) htot
          have cP := fun W => par_any x x' q q' W
          have cO := fun W => rpar_any x x' q q' W
          unfold clsV at cT cU cP cO
          unfold Says at cP cO
          obtain ⟨PB, hPB⟩ : ∃ B, parB x x' = B := ⟨_, rfl⟩
          rw [hPB] at cP cO
          have hlen63 : (timesC d s b m x).length ≤ 9223372036854775807 := by omega
          obtain ⟨L, hL⟩ : ∃ L, timesC d s b m x = L := ⟨_, rfl⟩
          rw [hL] at cT cU hle HK' hlen63
          obtain ⟨N, hN⟩ : ∃ N, L.length = N := ⟨_, rfl⟩
          have CT : Hid (∀ T wx, VRC w w2 d s b m L fb (fo + i * 9) fo x x' q q' T wx → Calls Tryz.prog 11 #[.agg #[.string (ba x.code), .string (ba x.course), .string (ba x.part), .int .i64 x.len, .slice q.aP x.pats.length q.cP, .int .i64 x.seats, .slice q.aF x.feats.length q.cF, .slice q.aS x.staff.length q.cS, .slice q.aT x.starts.length q.cT], .agg #[.int .i64 d, .int .i64 s, .int .i64 b, .int .i64 m]] wx fun e w' => ∃ A c, e = .returned (.slice A N c) ∧ VRC w w2 d s b m L fb (fo + i * 9) fo x x' q q' (A :: T) w') := hid fun T wx h => (cT wx h.v.a).mono fun e w' ⟨⟨v, he, hv⟩, hb⟩ => by
            obtain ⟨A, c, rfl, _, _, hi⟩ := TimeRow.timesIn hv hle
            rw [hN] at he
            exact ⟨A, c, he, (h.next hb).more (hi.mono fun k hk => hk.2)⟩
          have CU : Hid (∀ T wx, VRC w w2 d s b m L fb (fo + i * 9) fo x x' q q' T wx → Calls Tryz.prog 12 #[.agg #[.string (ba x.code), .string (ba x.course), .string (ba x.part), .int .i64 x.len, .slice q.aP x.pats.length q.cP, .int .i64 x.seats, .slice q.aF x.feats.length q.cF, .slice q.aS x.staff.length q.cS, .slice q.aT x.starts.length q.cT], .agg #[.int .i64 d, .int .i64 s, .int .i64 b, .int .i64 m]] wx fun e w' => ∃ A c, e = .returned (.slice A N c) ∧ VRC w w2 d s b m L fb (fo + i * 9) fo x x' q q' (A :: T) w') := hid fun T wx h => (cU wx h.v.a).mono fun e w' ⟨⟨v, he, hv⟩, hb⟩ => by
            obtain ⟨A, c, rfl, _, _, hi⟩ := TimeRow.timesIn hv hle
            rw [hN] at he
            exact ⟨A, c, he, (h.next hb).more (hi.mono fun k hk => hk.2)⟩
          have CSm : Hid (∀ A1 A2 c1 c2 wx, VRC w w2 d s b m L fb (fo + i * 9) fo x x' q q' [A2, A1] wx → Calls Tryz.prog 10 #[.slice A1 N c1, .slice A2 N c2] wx fun e w' => e = .returned (.bool true) ∧ VRC w w2 d s b m L fb (fo + i * 9) fo x x' q q' [] w') := hid fun A1 A2 c1 c2 wx h => by
            have h0 := sameTimes_any A1 A2 L c1 c2 _ _ wx (h.t A1 (by simp)) (h.t A2 (by simp)) hlen63
            rw [hN] at h0
            exact h0.mono fun e w' ⟨he, q, hw⟩ => ⟨he, by rw [hw]; exact (h.none).next (S3.below_drewN (Below.refl _ _) q)⟩
          have CP : Hid (∀ wx, VRC w w2 d s b m L fb (fo + i * 9) fo x x' q q' [] wx → Calls Tryz.prog 13 #[.agg #[.string (ba x.code), .string (ba x.course), .string (ba x.part), .int .i64 x.len, .slice q.aP x.pats.length q.cP, .int .i64 x.seats, .slice q.aF x.feats.length q.cF, .slice q.aS x.staff.length q.cS, .slice q.aT x.starts.length q.cT], .agg #[.string (ba x'.code), .string (ba x'.course), .string (ba x'.part), .int .i64 x'.len, .slice q'.aP x'.pats.length q'.cP, .int .i64 x'.seats, .slice q'.aF x'.feats.length q'.cF, .slice q'.aS x'.staff.length q'.cS, .slice q'.aT x'.starts.length q'.cT]] wx fun e w' => e = .returned (.bool PB) ∧ VRC w w2 d s b m L fb (fo + i * 9) fo x x' q q' [] w') := hid fun wx h => (cP wx).mono fun e w' ⟨he, hb⟩ => ⟨he, h.next hb⟩
          have CO : Hid (∀ wx, VRC w w2 d s b m L fb (fo + i * 9) fo x x' q q' [] wx → Calls Tryz.prog 14 #[.agg #[.string (ba x.code), .string (ba x.course), .string (ba x.part), .int .i64 x.len, .slice q.aP x.pats.length q.cP, .int .i64 x.seats, .slice q.aF x.feats.length q.cF, .slice q.aS x.staff.length q.cS, .slice q.aT x.starts.length q.cT], .agg #[.string (ba x'.code), .string (ba x'.course), .string (ba x'.part), .int .i64 x'.len, .slice q'.aP x'.pats.length q'.cP, .int .i64 x'.seats, .slice q'.aF x'.feats.length q'.cF, .slice q'.aS x'.staff.length q'.cS, .slice q'.aT x'.starts.length q'.cT]] wx fun e w' => e = .returned (.bool PB) ∧ VRC w w2 d s b m L fb (fo + i * 9) fo x x' q q' [] w') := hid fun wx h => (cO wx).mono fun e w' ⟨he, hb⟩ => ⟨he, h.next hb⟩
          clear cT cU cP cO htot hlen hle hPB hL hN hlen63 hinx hp ht
          obtain ⟨y0, y1, y2, y3, y4, y5, y6, y7, y8⟩ := HCX.out
          have hk' := HK'.out
          clear HK' HCX HRI HH HIN hK
          cases PB
          all_goals
            go_upto_region 7 with fail
            go_region_held3 (fun w' => w'.cell? ⟨fb, fo + i * 9, none⟩ = some (.string (ba x.code)) ∧ w'.cell? ⟨fb, fo + i * 9 + 1, none⟩ = some (.string (ba x.course)) ∧ w'.cell? ⟨fb, fo + i * 9 + 2, none⟩ = some (.string (ba x.part)) ∧ w'.cell? ⟨fb, fo + i * 9 + 3, none⟩ = some (.int .i64 x.len) ∧ w'.cell? ⟨fb, fo + i * 9 + 4, none⟩ = some (.slice q.aP x.pats.length q.cP) ∧ w'.cell? ⟨fb, fo + i * 9 + 5, none⟩ = some (.int .i64 x.seats) ∧ w'.cell? ⟨fb, fo + i * 9 + 6, none⟩ = some (.slice q.aF x.feats.length q.cF) ∧ w'.cell? ⟨fb, fo + i * 9 + 7, none⟩ = some (.slice q.aS x.staff.length q.cS) ∧ w'.cell? ⟨fb, fo + i * 9 + 8, none⟩ = some (.slice q.aT x.starts.length q.cT) ∧ w'.cell? ⟨fb, fo, none⟩ = some (.string (ba x'.code)) ∧ w'.cell? ⟨fb, fo + 1, none⟩ = some (.string (ba x'.course)) ∧ w'.cell? ⟨fb, fo + 2, none⟩ = some (.string (ba x'.part)) ∧ w'.cell? ⟨fb, fo + 3, none⟩ = some (.int .i64 x'.len) ∧ w'.cell? ⟨fb, fo + 4, none⟩ = some (.slice q'.aP x'.pats.length q'.cP) ∧ w'.cell? ⟨fb, fo + 5, none⟩ = some (.int .i64 x'.seats) ∧ w'.cell? ⟨fb, fo + 6, none⟩ = some (.slice q'.aF x'.feats.length q'.cF) ∧ w'.cell? ⟨fb, fo + 7, none⟩ = some (.slice q'.aS x'.staff.length q'.cS) ∧ w'.cell? ⟨fb, fo + 8, none⟩ = some (.slice q'.aT x'.starts.length q'.cT) ∧ w'.cell? ⟨w.heap.size, 0, none⟩ = some (.int .i64 d) ∧ w'.cell? ⟨w.heap.size, 1, none⟩ = some (.int .i64 s) ∧ w'.cell? ⟨w.heap.size, 2, none⟩ = some (.int .i64 b) ∧ w'.cell? ⟨w.heap.size, 3, none⟩ = some (.int .i64 m))
              (first | exact ⟨hk'.c.c0, hk'.c.c1, hk'.c.c2, hk'.c.c3, hk'.c.c4, hk'.c.c5, hk'.c.c6, hk'.c.c7, hk'.c.c8, hk'.e.c0, hk'.e.c1, hk'.e.c2, hk'.e.c3, hk'.e.c4, hk'.e.c5, hk'.e.c6, hk'.e.c7, hk'.e.c8, hk'.v.g.c0, hk'.v.g.c1, hk'.v.g.c2, hk'.v.g.c3⟩ | exact ⟨(hk'.next (Below.refl _ _).drew).c.c0, (hk'.next (Below.refl _ _).drew).c.c1, (hk'.next (Below.refl _ _).drew).c.c2, (hk'.next (Below.refl _ _).drew).c.c3, (hk'.next (Below.refl _ _).drew).c.c4, (hk'.next (Below.refl _ _).drew).c.c5, (hk'.next (Below.refl _ _).drew).c.c6, (hk'.next (Below.refl _ _).drew).c.c7, (hk'.next (Below.refl _ _).drew).c.c8, (hk'.next (Below.refl _ _).drew).e.c0, (hk'.next (Below.refl _ _).drew).e.c1, (hk'.next (Below.refl _ _).drew).e.c2, (hk'.next (Below.refl _ _).drew).e.c3, (hk'.next (Below.refl _ _).drew).e.c4, (hk'.next (Below.refl _ _).drew).e.c5, (hk'.next (Below.refl _ _).drew).e.c6, (hk'.next (Below.refl _ _).drew).e.c7, (hk'.next (Below.refl _ _).drew).e.c8, (hk'.next (Below.refl _ _).drew).v.g.c0, (hk'.next (Below.refl _ _).drew).v.g.c1, (hk'.next (Below.refl _ _).drew).v.g.c2, (hk'.next (Below.refl _ _).drew).v.g.c3⟩)
              (first
                | (go_at_call 11; refine (CT.out _ _ (hk'.next (Below.refl _ _).drew)).mono ?_; rintro e w' ⟨E1, k1, rfl, hk'⟩)
                | (go_at_call 11; refine (CT.out _ _ hk').mono ?_; rintro e w' ⟨E1, k1, rfl, hk'⟩)
                | (go_at_call 12; refine (CU.out _ _ (hk'.next (Below.refl _ _).drew)).mono ?_; rintro e w' ⟨E2, k2, rfl, hk'⟩)
                | (go_at_call 12; refine (CU.out _ _ hk').mono ?_; rintro e w' ⟨E2, k2, rfl, hk'⟩)
                | (go_at_call 10; refine (CSm.out _ _ _ _ _ (hk'.next (Below.refl _ _).drew)).mono ?_; rintro e w' ⟨rfl, hk'⟩)
                | (go_at_call 10; refine (CSm.out _ _ _ _ _ hk').mono ?_; rintro e w' ⟨rfl, hk'⟩)
                | (go_at_call 13; refine (CP.out _ (hk'.next (Below.refl _ _).drew)).mono ?_; rintro e w' ⟨rfl, hk'⟩)
                | (go_at_call 13; refine (CP.out _ hk').mono ?_; rintro e w' ⟨rfl, hk'⟩)
                | (go_at_call 14; refine (CO.out _ (hk'.next (Below.refl _ _).drew)).mono ?_; rintro e w' ⟨rfl, hk'⟩)
                | (go_at_call 14; refine (CO.out _ hk').mono ?_; rintro e w' ⟨rfl, hk'⟩))
            all_goals
              have HV := hid hk'.v
              clear hk'
              go_wp2
              go_roundw
              case rel => exact ⟨i + 1, by go_num, by omega, HV⟩
              case measure => simp [RowKit.intOf]; omega
        · have htz : (60 : Int) < (x.starts.length : Int) := by omega
          have htd : decide (60 < x.starts.length) = true := decide_eq_true (by omega)
          obtain ⟨y0, y1, y2, y3, y4, y5, y6, y7, y8⟩ := HCX.out
          clear HK' HCX HRI
          go_wp2
          go_roundw
          case rel => exact ⟨i + 1, by go_num, by omega, hK⟩
          case measure => simp [RowKit.intOf]; omega
      · have hpz : (20 : Int) < (x.pats.length : Int) := by omega
        have hpd : decide (20 < x.pats.length) = true := decide_eq_true (by omega)
        obtain ⟨y0, y1, y2, y3, y4, y5, y6, y7, y8⟩ := HCX.out
        clear HK' HCX HRI
        go_wp2
        go_roundw
        case rel => exact ⟨i + 1, by go_num, by omega, hK⟩
        case measure => simp [RowKit.intOf]; omega
    · have hltz : ¬ (i : Int) < (l.length : Int) := by omega
      have hk' := hK.out
      clear hK
      obtain ⟨g0, g1, g2, g3, _⟩ := id hk'.g
      go_wp2_with fail
      go_region_held3 (fun w' => w'.cell? ⟨w.heap.size, 0, none⟩ = some (.int .i64 d) ∧ w'.cell? ⟨w.heap.size, 1, none⟩ = some (.int .i64 s) ∧ w'.cell? ⟨w.heap.size, 2, none⟩ = some (.int .i64 b) ∧ w'.cell? ⟨w.heap.size, 3, none⟩ = some (.int .i64 m))
        (first | exact ⟨hk'.g.c0, hk'.g.c1, hk'.g.c2, hk'.g.c3⟩ | exact ⟨(hk'.next (Below.refl _ _).drew).g.c0, (hk'.next (Below.refl _ _).drew).g.c1, (hk'.next (Below.refl _ _).drew).g.c2, (hk'.next (Below.refl _ _).drew).g.c3⟩)
        (first
          | (go_at_call 15; refine (cA.out _ (hk'.next (Below.refl _ _).drew)).mono ?_; rintro e w' ⟨rfl, hk'⟩)
          | (go_at_call 15; refine (cA.out _ hk').mono ?_; rintro e w' ⟨rfl, hk'⟩)
          | (go_at_call 16; refine (cV.out _ hk').mono ?_; rintro e w' ⟨rfl, hk'⟩)
          | (go_at_call 17; refine (cQ.out _ hk').mono ?_; rintro e w' ⟨rfl, hk'⟩)
          | (go_at_call 18; refine (cS.out _ hk').mono ?_; rintro e w' ⟨rfl, hk'⟩))
      all_goals
        go_wp2_with fail
        go_ret
        exact ⟨rfl, hk'.a⟩
end Go.Proofs.YtigdcgklpapfbaaGreatDoor.S10

