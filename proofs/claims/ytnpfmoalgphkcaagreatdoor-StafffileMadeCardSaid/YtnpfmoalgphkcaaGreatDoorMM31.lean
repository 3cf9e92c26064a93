/-
  Small general facts and definitions, taken out of R7SF. No program. That the specification finds equal lists of rooms, of times, of problems equal. Conditions: .. Conditions: as stated.
-/
import Derived.Test.YtnpfmoalgphkcaaGreatDoorMM01
import Derived.Test.YtnpfmoalgphkcaaGreatDoorMM02
import Derived.Test.YtnpfmoalgphkcaaGreatDoorMM03
import Derived.Test.YtnpfmoalgphkcaaGreatDoorMM04
import Derived.Test.YtnpfmoalgphkcaaGreatDoorMM05
import Derived.Test.YtnpfmoalgphkcaaGreatDoorMM06
import Derived.Test.YtnpfmoalgphkcaaGreatDoorMM07
import Derived.Test.YtnpfmoalgphkcaaGreatDoorMM08
import Derived.Test.YtnpfmoalgphkcaaGreatDoorMM09
import Derived.Test.YtnpfmoalgphkcaaGreatDoorMM10
import Derived.Test.YtnpfmoalgphkcaaGreatDoorMM11
import Derived.Test.YtnpfmoalgphkcaaGreatDoorMM12
import Derived.Test.YtnpfmoalgphkcaaGreatDoorMM13
import Derived.Test.YtnpfmoalgphkcaaGreatDoorMM14
import Derived.Test.YtnpfmoalgphkcaaGreatDoorMM15
import Derived.Test.YtnpfmoalgphkcaaGreatDoorMM16
import Derived.Test.YtnpfmoalgphkcaaGreatDoorMM17
import Derived.Test.YtnpfmoalgphkcaaGreatDoorMM18
import Derived.Test.YtnpfmoalgphkcaaGreatDoorMM20
import Derived.Test.YtnpfmoalgphkcaaGreatDoorMM22
import Derived.Test.YtnpfmoalgphkcaaGreatDoorMM23
import Derived.Test.YtnpfmoalgphkcaaGreatDoorMM24
import Derived.Test.YtnpfmoalgphkcaaGreatDoorMM25
import Derived.Test.YtnpfmoalgphkcaaGreatDoorMM26
import Derived.Test.YtnpfmoalgphkcaaGreatDoorMM27
import Derived.Test.YtnpfmoalgphkcaaGreatDoorMM28
import Derived.Test.YtnpfmoalgphkcaaGreatDoorMM29
import Derived.Test.YtnpfmoalgphkcaaGreatDoorMM30
import Derived.Test.YtnpfmoalgphkcaaGreatDoorProg
import Derived.WalkKit
import Derived.WalkSpells
import Derived.WalkLawsBesides
import Derived.Lib.Hide
import Derived.Deep.QuietTactic
import Derived.BigQuiet
import Derived.Laws.Rows
import Derived.OwnWalk
import Derived.Lib.BufferWrite
import Derived.Lib.UnsafeStr
import Derived.Laws.IdiomStrings
import Derived.Laws.BytesArg
import Derived.Laws.BytesString
import Derived.Laws.OwnMore
import Derived.Lib.IndexLaws
import Derived.Lib.ItoaNum
import Derived.Lib.Atoi
import Derived.Lib.Bytealg
import Derived.Laws.BitsAllLaws
import Derived.Laws.BitsLemmas
import Derived.Deep.MidRow
import Derived.Shelf.Strings.Builder1
import Derived.Shelf.Strings.Builder2
import Derived.Shelf.Strings.OnBuilder
import Derived.Shelf.Strings.BuilderF
import Derived.Shelf.Strings.BuilderK
import Derived.Shelf.Strings.Builder2Cap
import Derived.Shelf.Strconv.Atoi
import Derived.Shelf.Strconv.Itoa0
import Derived.Shelf.Strconv.Itoa1
import Derived.Shelf.LaysM
import Derived.Shelf.Strconv.Itoa2
import Derived.Shelf.Strconv.Itoa3
import Derived.Shelf.Strconv.AtoiErrFast
import Derived.Shelf.Strconv.ParseIntEmpty
import Derived.Shelf.Strconv.AtoiFail
import Derived.Shelf.Strconv.Clone
import Derived.Shelf.Strconv.SyntaxError
import Derived.Shelf.LaysC
import Derived.Shelf.Strconv.ToError
import Derived.Shelf.Strconv.AtoiErr
import Derived.Shelf.Strings.Search1
import Derived.Shelf.Strings.Search2
import Derived.Shelf.Strings.Search3
import Derived.Shelf.Strings.Cut
import Derived.Shelf.Strings.Shaped
import Derived.Shelf.Strings.Prefix
import Derived.Shelf.Unicode.DecodeSlow
import Derived.Shelf.Strings.BuilderCap
import Derived.Lib.AtoiErrMem
import Derived.Handy
import Derived.RangeFuncNested
import Derived.RangeFuncBound
import Derived.RangeFuncCalls
import Derived.RangeFuncLeaves
import Derived.Shelf.Abstract
import Derived.Shelf.RegionOpen
import Derived.OwnWalkIn
import Derived.Lib.SlTrimSet
import Derived.Shelf.Strings.SlTrimAscii
import Derived.Laws.ResultCell
import Derived.RegionTactic
import Derived.Lib.Repeat
import Derived.Deep.RegionHeld3
import Derived.Lib.SlicesS
import Derived.TacticsInMore
import Derived.LoopNIn
import Derived.LoopIn
import Derived.Deep.DeepCutAuto
import Derived.Lib.Join
import Derived.Laws.Concat
import Derived.Maps.OwnSet
import Derived.Maps.Range
import Derived.Sort.EncStr
import Derived.Deep.RegionLaw
import Derived.Sort.Walk0
import Derived.StillTailTactics
import Derived.Deep.RegionLawGrows
import Derived.Deep.AppendLies
import Derived.Deep.CutBlock
import Derived.Maps.AppendAt
import Derived.IntWalk
import Derived.Shelf.SlGeneric
import Derived.Shelf.SlicesQ.IndexFunc
import Derived.RangeFuncBox
import Derived.ArgAppend
set_option linter.unusedVariables false
namespace Go.Proofs.YtnpfmoalgphkcaaGreatDoor
open Go Go.Proofs Go.RowKit Go.Lib
theorem probVals_get : ∀ (l : List ProbD) (j : Nat) (t : ProbD), l[j]? = some t → ∀ (i : Nat) (v : Value), (probVs t)[i]? = some v → (probVals l)[j * 4 + i]? = some v
  | [], j, t, h, _, _, _ => by simp at h
  | a :: r, 0, t, h, i, v, hv => by
    simp at h
    subst h
    have hi : i < 4 := (List.getElem?_eq_some_iff.1 hv).1
    unfold probVals
    rw [List.flatMap_cons, List.getElem?_append_left (by show _ < 4; omega)]
    simpa using hv
  | a :: r, j + 1, t, h, i, v, hv => by
    have := probVals_get r j t (by simpa using h) i v hv
    unfold probVals at this ⊢
    rw [List.flatMap_cons, List.getElem?_append_right (by show 4 ≤ _; omega)]
    show (List.flatMap probVs r)[(j + 1) * 4 + i - 4]? = _
    rw [show (j + 1) * 4 + i - 4 = j * 4 + i by omega]
    exact this
theorem ProbsRow.cell {w : World} {B : Nat} {v : Value} {l : List ProbD} (h : ProbsRow w B v l) {j : Nat} {p : ProbD} (hj : l[j]? = some p) :
    ∃ g cap, v = .slice (some ⟨g, 0, none⟩) l.length cap ∧ w.cell? ⟨g, j * 4, none⟩ = some (.int .i64 0) ∧ w.cell? ⟨g, j * 4 + 1, none⟩ = some (.int .i64 p.1) ∧ w.cell? ⟨g, j * 4 + 2, none⟩ = some (.int .i64 p.2.1) ∧ w.cell? ⟨g, j * 4 + 3, none⟩ = some (.int .i64 p.2.2) := by
  rcases h.2 with ⟨_, h0⟩ | ⟨g, cap, cur, hv, hB, _⟩
  · have := (List.getElem?_eq_some_iff.1 hj).1
    omega
  · have k : ∀ i u, (probVs p)[i]? = some u → w.cell? ⟨g, j * 4 + i, none⟩ = some u := fun i u hi => by
      have := World.ownsRow.cells h (g := g) (by rw [hv]; rfl) (j * 4 + i) u (probVals_get l j p hj i u hi)
      rwa [Addr.add_lit, Nat.zero_add] at this
    exact ⟨g, cap, hv, k 0 _ rfl, k 1 _ rfl, k 2 _ rfl, k 3 _ rfl⟩
set_option maxHeartbeats 4000000 in
set_option maxRecDepth 100000 in
theorem sameProbs_any (v v' : Value) (ps : List ProbD) (B B' : Nat) (w : World) (h : ProbsRow w B v ps) (h' : ProbsRow w B' v' ps) (hl : ps.length ≤ 1000000000) :
    Calls Tryz.prog 19 #[v, v'] w fun e w' => e = .returned (.bool true) ∧ ∃ q, w' = w.drewN q := by
  obtain ⟨A1, c1, rfl⟩ := S3.row_slice h
  obtain ⟨A2, c2, rfl⟩ := S3.row_slice h'
  have H := hid h
  have H' := hid h'
  clear h h'
  go_enter Tryz.func19, Tryz.ntmps19
  go_wp2
  go_loopw [5] (fun i wr => ∃ k : Nat, i = .int .i64 (k : Int) ∧ k ≤ ps.length ∧ ∃ q, wr = w.drewN q) (fun i _ => ps.length - (RowKit.intOf i).toNat)
  case atStart => exact ⟨0, rfl, Nat.zero_le _, 0, rfl⟩
  case round =>
    obtain ⟨k, rfl, hk, q, rfl⟩ := hrel
    by_cases hlt : k < ps.length
    · have hltz : (k : Int) < (ps.length : Int) := by omega
      obtain ⟨p, hp⟩ : ∃ p, ps[k]? = some p := ⟨_, List.getElem?_eq_getElem hlt⟩
      obtain ⟨g, cap', hv, a0, a1, a2, a3⟩ := H.out.cell hp
      injection hv with hA _ hcp
      subst hA hcp
      obtain ⟨g', cap', hv, b0, b1, b2, b3⟩ := H'.out.cell hp
      injection hv with hA _ hcp
      subst hA hcp
      obtain ⟨pl, pc, pe⟩ := p
      dsimp only at a0 a1 a2 a3 b0 b1 b2 b3
      clear hp
      go_wp2
      go_quiet (fail)
      go_wp2
      go_roundw
      case rel => exact ⟨k + 1, by go_num, by omega, q + nq, by first | rfl | rw [World.drewN_drewN]⟩
      case measure => simp [RowKit.intOf]; omega
    · have hltz : ¬ (k : Int) < (ps.length : Int) := by omega
      go_wp2
      go_ret
      exact ⟨rfl, q, rfl⟩
set_option maxHeartbeats 4000000 in
set_option maxRecDepth 100000 in
theorem sameTimes_any (A A' : Option Addr) (l : List TimeD) (c c' : Nat) (P P' : Nat → Prop) (w : World) (h : TimesIn w P A l) (h' : TimesIn w P' A' l) (hl : l.length ≤ 9223372036854775807) :
    Calls Tryz.prog 52 #[.slice A l.length c, .slice A' l.length c'] w fun e w' => e = .returned (.bool true) ∧ ∃ q, w' = w.drewN q := by
  have H := hid h
  have H' := hid h'
  clear h h'
  go_enter Tryz.func52, Tryz.ntmps52
  go_wp2
  go_loopw [5] (fun i wr => ∃ k : Nat, i = .int .i64 (k : Int) ∧ k ≤ l.length ∧ ∃ q, wr = w.drewN q) (fun i _ => l.length - (RowKit.intOf i).toNat)
  case atStart => exact ⟨0, rfl, Nat.zero_le _, 0, rfl⟩
  case round =>
    obtain ⟨k, rfl, hk, q, rfl⟩ := hrel
    by_cases hlt : k < l.length
    · have hltz : (k : Int) < (l.length : Int) := by omega
      obtain ⟨b1, o1, rfl, _, a0, a1, a2, a3⟩ := H.out.at_ hlt
      obtain ⟨b2, o2, rfl, _, e0, e1, e2, e3⟩ := H'.out.at_ hlt
      obtain ⟨⟨t1, t2, t3, t4⟩, ht⟩ : ∃ t, l[k] = t := ⟨_, rfl⟩
      rw [ht] at a0 a1 a2 a3 e0 e1 e2 e3
      dsimp only at a0 a1 a2 a3 e0 e1 e2 e3
      have d1 : decide (l.length ≤ k) = false := decide_eq_false (by omega)
      clear ht
      go_wp2
      go_quiet (fail)
      go_wp2
      go_roundw
      case rel => exact ⟨k + 1, by go_num, by omega, q + nq, by first | rfl | rw [World.drewN_drewN]⟩
      case measure => simp [RowKit.intOf]; omega
    · have hltz : ¬ (k : Int) < (l.length : Int) := by omega
      go_wp2
      go_ret
      exact ⟨rfl, q, rfl⟩
theorem times_drewN {w : World} {P : Nat → Prop} {A : Option Addr} {l : List TimeD} (h : TimesIn w P A l) (q : Nat) : TimesIn (w.drewN q) P A l := h.kept fun b _ => S3.drewN_heap w q b
end Go.Proofs.YtnpfmoalgphkcaaGreatDoor
namespace Go.Proofs.YtnpfmoalgphkcaaGreatDoor.S9
open Go Go.Proofs Go.RowKit Go.Lib Go.Proofs.YtnpfmoalgphkcaaGreatDoor
set_option maxHeartbeats 8000000 in
set_option maxRecDepth 100000 in
theorem same9_any (A A' : Option Addr) (l : List LectD) (c c' : Nat) (P P' : Nat → Prop) (w : World) (h : LectsIn w P A l) (h' : LectsIn w P' A' l) (hl : l.length ≤ 9223372036854775807) :
    Calls Tryz.prog 18 #[.slice A l.length c, .slice A' l.length c'] w fun e w' => e = .returned (.bool true) ∧ ∃ q, w' = w.drewN q := by
  have H := hid h
  have H' := hid h'
  clear h h'
  go_enter Tryz.func18, Tryz.ntmps18
  go_wp2
  go_loopw [5] (fun i wr => ∃ k : Nat, i = .int .i64 (k : Int) ∧ k ≤ l.length ∧ Hid (∃ q, wr = w.drewN q)) (fun i _ => l.length - (RowKit.intOf i).toNat)
  case atStart => exact ⟨0, rfl, Nat.zero_le _, hid ⟨0, rfl⟩⟩
  case round =>
    obtain ⟨k, rfl, hk, HQ⟩ := hrel
    by_cases hlt : k < l.length
    · have hltz : (k : Int) < (l.length : Int) := by omega
      have hst : ∀ j, wr.heap[j]? = w.heap[j]? := fun j => by obtain ⟨q, hq⟩ := HQ.out; rw [hq, S3.drewN_heap]
      obtain ⟨b1, o1, ⟨ta1, tc1⟩, rfl, _, hr1, a0, a1⟩ := (H.out.kept (w' := wr) (fun b _ => hst b)).at_ hlt
      obtain ⟨b2, o2, ⟨ta2, tc2⟩, rfl, _, hr2, e0, e1⟩ := (H'.out.kept (w' := wr) (fun b _ => hst b)).at_ hlt
      have cT := fun q => sameTimes_any ta1 ta2 l[k].2 tc1 tc2 _ _ (wr.drewN q) (times_drewN hr1.t q) (times_drewN hr2.t q) (Nat.le_trans hr1.t1 hr1.t2)
      obtain ⟨⟨cd, ts⟩, ht⟩ : ∃ t, l[k] = t := ⟨_, rfl⟩
      rw [ht] at a0 a1 e0 e1
      simp only [ht] at cT
      dsimp only at a0 a1 e0 e1
      obtain ⟨T, hT⟩ : ∃ T, ts.length = T := ⟨_, rfl⟩
      rw [hT] at a1 e1
      simp only [hT] at cT
      obtain ⟨C, hC⟩ : ∃ C, ba cd = C := ⟨_, rfl⟩
      rw [hC] at a0 e0
      have d1 : decide (l.length ≤ k) = false := decide_eq_false (by omega)
      have CT := hid cT
      clear ht hr1 hr2 hT hC cT hst
      go_wp2
      go_quiet ((go_at_call 52; with_reducible refine Calls.quiet_of (CT.out _)))
      go_wp2
      go_roundw
      case rel => exact ⟨k + 1, by go_num, by omega, hid (by obtain ⟨q, hq⟩ := HQ.out; exact ⟨q + nq, by rw [hq, World.drewN_drewN]⟩)⟩
      case measure => simp [RowKit.intOf]; omega
    · have hltz : ¬ (k : Int) < (l.length : Int) := by omega
      go_wp2
      go_ret
      exact ⟨rfl, HQ.out⟩
structure VR (w0 w2 : World) (d s b m : Int) (w : World) : Prop where
  g : K1 w0 d s b m w
  b : Below w2.heap.size w2 w
theorem VR.next {w0 w2 w w' : World} {d s b m : Int} (h : VR w0 w2 d s b m w) (k : Below w.heap.size w w') : VR w0 w2 d s b m w' := ⟨h.g.next k, h.b.trans (k.mono h.b.size)⟩
set_option maxHeartbeats 16000000 in
set_option maxRecDepth 100000 in
theorem rreadsLaw_any (d s b m n : Int) (A : Option Addr) (l : List RecD) (c : Nat) (w : World) (h : RecsIn w (fun k => k < w.heap.size) A l) (hl : l.length ≤ 500000000)
    (hsz : ∀ x ∈ l, ∀ f ∈ x.2, f.1.length ≤ 2097152) (hE : Env7 w) (hR : REnv7 w)
    (hA : ∀ w', Below w.heap.size w w' → Calls Tryz.prog 12 #[] w' (Says (.bool true) w')) :
    Calls Tryz.prog 4 #[.slice A l.length c, .agg #[.int .i64 d, .int .i64 s, .int .i64 b, .int .i64 m], .int .i64 n] w fun e w' => e = .returned (.bool true) ∧ Below w.heap.size w w' := by
  have hk := K1.first w d s b m 24
  have HK := hid hk
  have hin : ∀ w', Below w.heap.size w w' → RecsIn w' (fun k => k < w'.heap.size) A l := fun w' hb => (h.below hb).mono (fun k hk => Nat.lt_of_lt_of_le hk hb.size)
  have cP := fun w' (hb : Below w.heap.size w w') => read9_any d s b m n A l c w' (hin w' hb) (by omega) (fun x hx f hf => by have := hsz x hx f hf; omega) (hE.below hb (Nat.le_refl _))
  have cR := fun w' (hb : Below w.heap.size w w') => rread9_any d s b m n A l c w' (hin w' hb) (by omega) hsz (hR.below hb (Nat.le_refl _))
  unfold ReadOut at cP cR
  unfold Says at hA
  obtain ⟨⟨RS, PS⟩, hO⟩ : ∃ O, readM d s b m n l = O := ⟨_, rfl⟩
  have hrl : RS.length ≤ 32 := by
    have h1 := recsM_len d s b m n l
    unfold readM at hO
    split at hO
    · rw [hO] at h1; exact h1
    · injection hO with h2 _; rw [← h2]; decide
  have hpl : PS.length ≤ 500000001 := by
    have h1 := recsM_probs d s b m n l
    unfold readM at hO
    split at hO
    · rw [hO] at h1; dsimp only at h1; omega
    · injection hO with _ h2; rw [← h2]; decide
  simp only [hO] at cP cR
  have CP := hid cP
  have CR := hid cR
  have CA := hid hA
  have HIN := hid hin
  clear hk h hE hR hin cP cR hA hO hsz
  obtain ⟨g0, g1, g2, g3, _⟩ := HK.out.x
  go_enter Tryz.func4, Tryz.ntmps4
  go_wp2_with fail
  obtain ⟨wg, hwg⟩ : ∃ wg, w.alloc (.cells #[.int .i64 d, .int .i64 s, .int .i64 b, .int .i64 m] 24) = wg := ⟨_, rfl⟩
  have hkg := HK.out
  rw [hwg] at hkg g0 g1 g2 g3
  (try rw [hwg])
  have HKG := hid hkg
  clear hwg hkg HK g0 g1 g2 g3
  go_loopw [7] (fun iv wr => ∃ i : Nat, iv = .int .i64 (i : Int) ∧ i ≤ l.length ∧ Hid (∃ q, wr = wg.drewN q)) (fun iv _ => l.length - (RowKit.intOf iv).toNat)
  case atStart => exact ⟨0, rfl, Nat.zero_le _, hid ⟨0, rfl⟩⟩
  case round =>
    obtain ⟨i, rfl, hi, HQ⟩ := hrel
    have hkr : K1 w d s b m wr := by
      obtain ⟨q, hq⟩ := HQ.out
      rw [hq]
      exact HKG.out.next (S3.below_drewN (Below.refl _ wg) q)
    have HKR := hid hkr
    clear hkr
    by_cases hlt : i < l.length
    · have hltz : (i : Int) < (l.length : Int) := by omega
      obtain ⟨fb, fo, A', c', rfl, hfb, -, -, -, -, y1⟩ := (HIN.out wr HKR.out.b).at_ hlt
      obtain ⟨F, hF⟩ : ∃ F, l[i].2.length = F := ⟨_, rfl⟩
      rw [hF] at y1
      have hd : decide (l.length ≤ i) = false := decide_eq_false (by omega)
      clear hF
      by_cases h20 : 20 < F
      · have h20z : (20 : Int) < (F : Int) := by omega
        clear h20
        go_wp2_with fail
        refine (CA.out _ HKR.out.b).mono ?_
        rintro e w2 ⟨rfl, hb2⟩
        have HB2 := hid (HKR.out.b.trans (hb2.mono HKR.out.b.size))
        clear hb2
        go_wp2
        go_ret
        exact ⟨rfl, HB2.out⟩
      · have h20z : ¬ (20 : Int) < (F : Int) := by omega
        clear h20
        go_wp2
        go_roundw
        case rel => exact ⟨i + 1, by go_num, by omega, HQ⟩
        case measure => simp [RowKit.intOf]; omega
    · have hltz : ¬ (i : Int) < (l.length : Int) := by omega
      obtain ⟨g0, g1, g2, g3, _⟩ := HKR.out.x
      go_wp2_with fail
      refine (CP.out _ HKR.out.b).mono ?_
      rintro e w1 ⟨v1, v2, rfl, hr1, hp1, hb1⟩
      have HK1 := hid (HKR.out.next hb1)
      have HR1 := hid hr1
      have HP1 := hid hp1
      clear g0 g1 g2 g3 hb1 hr1 hp1
      obtain ⟨g0, g1, g2, g3, _⟩ := HK1.out.x
      go_wp2_with fail
      refine (CR.out _ HK1.out.b).mono ?_
      rintro e w2 ⟨v3, v4, rfl, hr2, hp2, hb2⟩
      obtain ⟨Aa, ca, rfl, -, hca, hia⟩ := HR1.out.lectsIn
      obtain ⟨Ab, cb, rfl, -, -, hib⟩ := hr2.lectsIn
      have hia2 : LectsIn w2 (fun k => k < w2.heap.size) Aa RS := (hia.kept (fun k hk => hb2.block k (by rcases hk with h | h; exact h.2; exact h.2))).mono (fun k hk => Nat.lt_of_lt_of_le (by rcases hk with h | h; exact h.2; exact h.2) hb2.size)
      have hib2 : LectsIn w2 (fun k => k < w2.heap.size) Ab RS := hib.mono (fun k hk => by rcases hk with h | h; exact h.2; exact h.2)
      have hpa2 := S3.row_under HP1.out hb2
      have hk' : VR w w2 d s b m w2 := ⟨HK1.out.next hb2, Below.refl _ _⟩
      have cA : Hid (∀ wx, VR w w2 d s b m wx → Calls Tryz.prog 12 #[] wx fun e w' => e = .returned (.bool true) ∧ VR w w2 d s b m w') := hid fun wx h => (CA.out wx h.g.b).mono fun e w' ⟨he, hb⟩ => ⟨he, h.next hb⟩
      have cS : Hid (∀ wx, VR w w2 d s b m wx → Calls Tryz.prog 18 #[.slice Aa RS.length ca, .slice Ab RS.length cb] wx fun e w' => e = .returned (.bool true) ∧ VR w w2 d s b m w') := hid fun wx h =>
        (same9_any Aa Ab RS ca cb _ _ wx (hia2.kept (fun k hk => h.b.block k hk)) (hib2.kept (fun k hk => h.b.block k hk)) (by omega)).mono fun e w' ⟨he, q, hw⟩ => ⟨he, by rw [hw]; exact h.next (S3.below_drewN (Below.refl _ _) q)⟩
      have cQ : Hid (∀ wx, VR w w2 d s b m wx → Calls Tryz.prog 19 #[v2, v4] wx fun e w' => e = .returned (.bool true) ∧ VR w w2 d s b m w') := hid fun wx h =>
        (sameProbs_any v2 v4 PS _ _ wx (S3.row_under hpa2 h.b) (S3.row_under hp2 h.b) (by omega)).mono fun e w' ⟨he, q, hw⟩ => ⟨he, by rw [hw]; exact h.next (S3.below_drewN (Below.refl _ _) q)⟩
      obtain ⟨RN, hRN⟩ : ∃ RN, RS.length = RN := ⟨_, rfl⟩
      rw [hRN] at cS ⊢
      clear CA CP CR hia hib hia2 hib2 hpa2 hr2 hp2 hb2 HR1 HP1 HK1 g0 g1 g2 g3 hRN hca
      go_wp2_with fail
      refine (cA.out _ hk').mono ?_
      rintro e w3 ⟨rfl, hk3⟩
      have HK3 := hid hk3
      clear hk3 hk'
      go_wp2_with fail
      refine (cS.out _ HK3.out).mono ?_
      rintro e w4 ⟨rfl, hk4⟩
      have HK4 := hid hk4
      clear hk4
      go_wp2_with fail
      refine (cQ.out _ HK4.out).mono ?_
      rintro e w5 ⟨rfl, hk5⟩
      have HK5 := hid hk5
      clear hk5
      go_wp2
      go_ret
      exact ⟨rfl, HK5.out.g.b⟩
end Go.Proofs.YtnpfmoalgphkcaaGreatDoor.S9
namespace Go.Proofs.YtnpfmoalgphkcaaGreatDoor
open Go Go.Proofs Go.RowKit Go.Lib
theorem has_mem (c : UInt8) : ∀ l : Str, has c l = false → c ∉ l
  | [], _ => by simp
  | x :: r, h => by
    simp only [has, Bool.or_eq_false_iff, beq_eq_false_iff_ne, ne_eq] at h
    intro hm
    rcases List.mem_cons.1 hm with e | e
    · exact h.1 e.symm
    · exact has_mem c r h.2 e
theorem item_semi : ∀ a b : Fin 25, has 59 (itemT a.val b.val) = false := by decide +kernel
theorem joinC_semi : ∀ (l : List Str), (∀ x ∈ l, has 59 x = false) → has 59 (joinC l) = false
  | [], _ => rfl
  | [x], h => h x (by simp)
  | x :: y :: l, h => by
    show has 59 (x ++ 44 :: joinC (y :: l)) = false
    rw [has_app, h x (by simp)]
    simp only [has]
    rw [joinC_semi (y :: l) (fun z hz => h z (List.mem_cons_of_mem _ hz))]
    rfl
theorem word_semi : ∀ k : Fin 5, has 59 (wordS k.val) = false := by decide
theorem form_semi {s n : Nat} (hs : s < 2 ^ n) (hn : n ≤ 20) : has 59 (formN s n) = false := by
  unfold formN
  cases h : nameK s n with
  | some k => exact word_semi ⟨k, (nameK_of h).1⟩
  | none =>
    refine joinC_semi _ (fun x hx => ?_)
    obtain ⟨r, hr, rfl⟩ := List.mem_map.1 hx
    obtain ⟨h1, h2, h3⟩ := runs_ok hs hn r hr
    exact item_semi ⟨r.1, by omega⟩ ⟨r.2, by omega⟩
theorem day_semi : ∀ y : Fin 7, has 59 (dayS y.val) = false ∧ dayS y.val ≠ [] := by decide
theorem timeT_semi {n k y t l : Nat} (hy : y < 7) (hl : 1 ≤ l) (htl : t + l ≤ 24) (hk : k < 2 ^ n) (hn : n ≤ 20) : has 59 (timeT n k y t l) = false ∧ timeT n k y t l ≠ [] := by
  have h1 := day_semi ⟨y, hy⟩
  have h2 := item_semi ⟨t + 1, by omega⟩ ⟨t + l, by omega⟩
  have h3 := form_semi hk hn
  dsimp only at h1 h2
  unfold timeT
  constructor
  · rw [has_app, has_app, h1.1]
    simp only [has]
    rw [h2]
    split
    · rfl
    · simp only [has]
      rw [h3]
      rfl
  · intro e
    have := congrArg List.length e
    simp at this
section
variable {d s b m : Int} {n : Nat}
theorem timeS_made (hg : MadeG d s b m) (h1 : 1 ≤ n) (h2 : n ≤ 20) {t : TimeD} (ht : MadeT d s n t.1 t.2.1 t.2.2.1 t.2.2.2) :
    timeM d s b m n (timeS d s b m n t) = (t, 0) ∧ has 59 (timeS d s b m n t) = false ∧ timeS d s b m n t ≠ [] := by
  obtain ⟨K, Y, T, U⟩ := t
  dsimp only at ht
  have hf := made_fits hg h1 h2 ht
  obtain ⟨t1, t2, t3, t4, t5⟩ := ht
  obtain ⟨g1, g2, _⟩ := hg
  obtain ⟨k, rfl⟩ : ∃ k : Nat, K = (k : Int) := ⟨K.toNat, by omega⟩
  obtain ⟨y, rfl⟩ : ∃ k : Nat, Y = (k : Int) := ⟨Y.toNat, by omega⟩
  obtain ⟨u, rfl⟩ : ∃ k : Nat, T = (k : Int) := ⟨T.toNat, by omega⟩
  obtain ⟨l, rfl⟩ : ∃ k : Nat, U = (k : Int) := ⟨U.toNat, by omega⟩
  have hk : k < 2 ^ n := by
    have e : (2 : Int) ^ n = ((2 ^ n : Nat) : Int) := by rw [Int.natCast_pow]; rfl
    omega
  have e : timeS d s b m n ((k : Int), (y : Int), (u : Int), (l : Int)) = timeT n k y u l := by
    unfold timeS textT
    dsimp only
    rw [if_pos hf]
    simp
  rw [e]
  exact ⟨time_read hf, timeT_semi (by omega) (by omega) (by omega) hk h2⟩
theorem tgo_made (hg : MadeG d s b m) (h1 : 1 ≤ n) (h2 : n ≤ 20) : ∀ (ts acc : List TimeD), (∀ t ∈ ts, MadeT d s n t.1 t.2.1 t.2.2.1 t.2.2.2) → tgo d s b m n (ts.map (timeS d s b m n)) acc = (acc ++ ts, 0)
  | [], acc, _ => by simp [tgo]
  | t :: ts, acc, h => by
    rw [List.map_cons, tgo, (timeS_made hg h1 h2 (h t (by simp))).1, if_neg (by simp), tgo_made hg h1 h2 ts _ (fun x hx => h x (by simp [hx]))]
    simp
theorem timesM_made (hg : MadeG d s b m) (h1 : 1 ≤ n) (h2 : n ≤ 20) {ts : List TimeD} (h : ∀ t ∈ ts, MadeT d s n t.1 t.2.1 t.2.2.1 t.2.2.2) (hl : ts.length ≤ 24) : timesM d s b m n (timesS d s b m n ts) = (ts, 0) := by
  unfold timesM timesS
  cases ts with
  | nil => rfl
  | cons t r =>
    have hne : (t :: r).map (timeS d s b m n) ≠ [] := by simp
    have hsp := S3.split_semi _ hne (fun p hp => by
      obtain ⟨x, hx, rfl⟩ := List.mem_map.1 hp
      exact has_mem 59 _ (timeS_made hg h1 h2 (h x hx)).2.1)
    have hn : S3.semi ((t :: r).map (timeS d s b m n)) ≠ [] := by
      intro e
      rw [e] at hsp
      have h0 : [([] : Str)] = (t :: r).map (timeS d s b m n) := hsp
      rw [List.map_cons] at h0
      injection h0 with h0 _
      exact (timeS_made hg h1 h2 (h t (by simp))).2.2 h0.symm
    rw [if_neg hn, hsp, tgo_made hg h1 h2 _ _ h, if_neg (by simp), if_neg (by simp at hl ⊢; omega)]
    rfl
theorem person_valid : ∀ j : Fin 3, S3.validC (personS j.val) = true := by decide
structure LectOk (d s : Int) (n : Nat) (j : Nat) (x : LectD) : Prop where
  c : x.1 = personS j
  l : x.2.length ≤ 2
  t : ∀ t ∈ x.2, MadeT d s n t.1 t.2.1 t.2.2.1 t.2.2.2
theorem lectM_made (hg : MadeG d s b m) (h1 : 1 ≤ n) (h2 : n ≤ 20) {j : Nat} (hj : j < 3) {x : LectD} (h : LectOk d s n j x) : lectM d s b m n x = 0 := by
  unfold lectM
  rw [h.c, person_valid ⟨j, hj⟩, if_neg (by simp), if_neg (by have := h.l; omega), if_neg]
  simp only [List.any_eq_true, not_exists, not_and]
  intro t ht
  unfold unfitB fitT
  simp [made_fits hg h1 h2 (h.t t ht)]
theorem recM_made (hg : MadeG d s b m) (h1 : 1 ≤ n) (h2 : n ≤ 20) {j : Nat} (hj : j < 3) {x : LectD} (h : LectOk d s n j x) (i : Int) (l : List LectD) (hc : x.1 ∉ codesL l) (hl : l.length < 32) :
    S9.recM d s b m n (l, []) (i, colsM 1 (rowL d s b m n x)) = (l ++ [x], []) := by
  have hv : S3.validC x.1 = true := by rw [h.c]; exact person_valid ⟨j, hj⟩
  have ht := timesM_made hg h1 h2 h.t (by have := h.l; omega)
  have he : S9.entryM d s b m n (colsM 1 (rowL d s b m n x)) = (x, 0, 0) := by
    unfold S9.entryM rowL
    rw [if_neg (by rw [colsM_len]; simp)]
    simp only [colsM, S9.efold, S9.setF, hv, ht]
    simp
  have ha : S9.addC l x.1 = 0 := by
    unfold S9.addC
    rw [if_neg hc, if_neg (by omega)]
  unfold S9.recM
  dsimp only
  rw [he]
  dsimp only
  rw [if_neg (by simp), ha, if_neg (by simp)]
theorem StaffOk.lect {ls : List LectD} (h : StaffOk d s n ls) {j : Nat} {x : LectD} (hj : ls[j]? = some x) : LectOk d s n j x := ⟨(h.at_ j x hj).1, (h.at_ j x hj).2.1, (h.at_ j x hj).2.2⟩
theorem staff_made (hg : MadeG d s b m) (h1 : 1 ≤ n) (h2 : n ≤ 20) {ls : List LectD} (h : StaffOk d s n ls) :
    validL d s b m n ls = 0 ∧ S9.readM d s b m n (plainM (ls.map (rowL d s b m n))) = (ls, []) := by
  have hf := made_frame hg h1 h2
  have h3 := h.len
  unfold validL S9.readM
  rw [if_neg (by simp [hf]), if_neg (by omega), if_pos hf]
  have p01 : personS 1 ≠ personS 0 := by decide
  have p02 : personS 2 ≠ personS 0 := by decide
  have p12 : personS 2 ≠ personS 1 := by decide
  match ls, h3, h with
  | [], _, h => exact ⟨rfl, rfl⟩
  | [x], _, h =>
    have k0 := h.lect (j := 0) (x := x) rfl
    refine ⟨by simp [goL, lectM_made hg h1 h2 (by omega) k0], ?_⟩
    unfold S9.recsM plainM
    simp only [List.map_cons, List.map_nil, List.mapIdx_cons, List.mapIdx_nil, List.foldl_cons, List.foldl_nil]
    rw [recM_made hg h1 h2 (by omega) k0 _ _ (by simp [codesL]) (by simp)]
    rfl
  | [x, y], _, h =>
    have k0 := h.lect (j := 0) (x := x) rfl
    have k1 := h.lect (j := 1) (x := y) rfl
    refine ⟨by simp [goL, lectM_made hg h1 h2 (by omega) k0, lectM_made hg h1 h2 (by omega) k1, k0.c, k1.c, p01], ?_⟩
    unfold S9.recsM plainM
    simp only [List.map_cons, List.map_nil, List.mapIdx_cons, List.mapIdx_nil, List.foldl_cons, List.foldl_nil]
    rw [recM_made hg h1 h2 (by omega) k0 _ _ (by simp [codesL]) (by simp), recM_made hg h1 h2 (by omega) k1 _ _ (by simp [codesL, k0.c, k1.c, p01]) (by simp)]
    rfl
  | [x, y, z], _, h =>
    have k0 := h.lect (j := 0) (x := x) rfl
    have k1 := h.lect (j := 1) (x := y) rfl
    have k2 := h.lect (j := 2) (x := z) rfl
    refine ⟨by simp [goL, lectM_made hg h1 h2 (by omega) k0, lectM_made hg h1 h2 (by omega) k1, lectM_made hg h1 h2 (by omega) k2, k0.c, k1.c, k2.c, p01, p02, p12], ?_⟩
    unfold S9.recsM plainM
    simp only [List.map_cons, List.map_nil, List.mapIdx_cons, List.mapIdx_nil, List.foldl_cons, List.foldl_nil]
    rw [recM_made hg h1 h2 (by omega) k0 _ _ (by simp [codesL]) (by simp), recM_made hg h1 h2 (by omega) k1 _ _ (by simp [codesL, k0.c, k1.c, p01]) (by simp), recM_made hg h1 h2 (by omega) k2 _ _ (by simp [codesL, k0.c, k1.c, k2.c, p02, p12]) (by simp)]
    rfl
  | x :: y :: z :: u :: r, h3, _ => simp at h3
end
theorem colsM_mem : ∀ (c : Int) (r : List Str) (f : FieldD), f ∈ colsM c r → f.1 ∈ r
  | c, [], f, h => by simp [colsM] at h
  | c, s :: r, f, h => by
    simp only [colsM, List.mem_cons] at h
    rcases h with rfl | h
    · simp
    · exact List.mem_cons_of_mem _ (colsM_mem _ r f h)
theorem plainM_mem {l : List (List Str)} {x : RecD} (h : x ∈ plainM l) : ∀ f ∈ x.2, ∃ r ∈ l, f.1 ∈ r := by
  unfold plainM at h
  obtain ⟨i, hi, rfl⟩ := List.mem_mapIdx.1 h
  exact fun f hf => ⟨l[i], List.getElem_mem hi, colsM_mem _ _ f hf⟩
theorem row_small {d s b m : Int} {n : Nat} {ls : List LectD} (h : StaffOk d s n ls) : ∀ r ∈ ls.map (rowL d s b m n), r.length = 2 ∧ ∀ x ∈ r, x.length ≤ 1000 := by
  intro r hr
  obtain ⟨x, hx, rfl⟩ := List.mem_map.1 hr
  obtain ⟨j, hj, rfl⟩ := List.mem_iff_getElem.1 hx
  have k := h.at_ j ls[j] (List.getElem?_eq_getElem hj)
  have h3 := h.len
  refine ⟨rfl, fun y hy => ?_⟩
  simp only [rowL, List.mem_cons, List.not_mem_nil, or_false] at hy
  rcases hy with rfl | rfl
  · rw [k.1]
    rcases (show j = 0 ∨ j = 1 ∨ j = 2 by omega) with rfl | rfl | rfl <;> decide
  · unfold timesS
    have h1 := semi_len300 (ls[j].2.map (timeS d s b m n)) (fun p hp => by obtain ⟨t, _, rfl⟩ := List.mem_map.1 hp; exact timeS_len _ _ _ _ _ t)
    rw [List.length_map] at h1
    have h2 := k.2.1
    omega
def SpoilOut (g c : Nat) (A : Option Addr) (L : List Int) (s : ByteArray) (w : World) (e : Ending) (w' : World) : Prop :=
  (∃ l : (List UInt8), e = .returned (.string ⟨l.toArray⟩) ∧ l.length ≤ s.size + 1) ∧ (∃ k', DiceAt w' g A L c k') ∧ Played w.heap.size g w w'
def CellsAt (w : World) (b : Nat) (l : (List UInt8)) : Prop := ∀ (j : Nat) (u : UInt8), l[j]? = some u → w.cell? ⟨b, j, none⟩ = some (.int .u8 (u.toNat : Int))
theorem CellsAt.conv {P : Program} {w : World} {b : Nat} {l : (List UInt8)} (h : CellsAt w b l) (cap : Nat) (src e dst : TypeId) (hs : P.underlying src = some (.slice e)) (he : P.underlying e = some (.int .u8)) (hd : P.underlying dst = some .string) :
    (Go.convert src dst (.slice (some ⟨b, 0, none⟩) l.length cap)).run P w = .ok (.string ⟨l.toArray⟩) w := by
  refine run_convert_bytes_back w src dst e ⟨b, 0, none⟩ cap l hs he hd (fun j hj => ?_)
  rw [Addr.add_lit, Nat.zero_add]
  exact h j _ (List.getElem?_eq_getElem hj)
theorem CellsAt.kept {w w' : World} {b : Nat} {l : (List UInt8)} (h : CellsAt w b l) (hk : w'.heap[b]? = w.heap[b]?) : CellsAt w' b l :=
  fun j u hj => (World.cell?_of_block (w := w) hk).trans (h j u hj)
theorem CellsAt.set {w : World} {b : Nat} {l : (List UInt8)} (h : CellsAt w b l) (i : Nat) (x : UInt8) (hi : i < l.length) : CellsAt (w.setCell ⟨b, i, none⟩ (.int .u8 (x.toNat : Int))) b (l.set i x) := fun j u hj => by
  by_cases e : i = j
  · subst e
    rw [List.getElem?_set_self hi] at hj
    obtain rfl : x = u := by simpa using hj
    exact World.cell?_setCell_same w _ _ (h i _ (List.getElem?_eq_getElem hi))
  · rw [List.getElem?_set_ne e] at hj
    rw [World.cell?_setCell_other w ⟨b, i, none⟩ ⟨b, j, none⟩ _ (by intro e'; injection e' with _ e2 _; exact e e2)]
    exact h j u hj
theorem below_setCells {B b : Nat} (hB : B ≤ b) : ∀ (vs : List Value) (o : Nat) (w : World), Below B w (w.setCells b o vs)
  | [], _, w => Below.refl B w
  | v :: r, o, w => ((Below.refl B w).setCell (p := ⟨b, o, none⟩) hB v).trans (below_setCells hB r (o + 1) _)
theorem CellsAt.take {w : World} {b : Nat} {l : (List UInt8)} (h : CellsAt w b l) (i : Nat) : ∀ j u, (byteCells (l.take i))[j]? = some u → w.cell? ⟨b, 0 + j, none⟩ = some u := fun j u hj => by
  unfold byteCells at hj
  rw [List.getElem?_map] at hj
  obtain ⟨x, hx, rfl⟩ := Option.map_eq_some_iff.1 hj
  rw [Nat.zero_add]
  refine h j x ?_
  rw [List.getElem?_take] at hx
  split at hx
  · exact hx
  · simp at hx
theorem CellsAt.drop {w : World} {b : Nat} {l : (List UInt8)} (h : CellsAt w b l) (i : Nat) : ∀ j u, (byteCells (l.drop i))[j]? = some u → w.cell? ((⟨b, i, none⟩ : Addr).add j) = some u := fun j u hj => by
  unfold byteCells at hj
  rw [List.getElem?_map] at hj
  obtain ⟨x, hx, rfl⟩ := Option.map_eq_some_iff.1 hj
  rw [Addr.add_lit]
  refine h (i + j) x ?_
  rw [List.getElem?_drop] at hx
  exact hx
theorem CellsAt.shut {w : World} {b : Nat} {l : (List UInt8)} (h : CellsAt w b l) (i : Nat) (hi : i < l.length) : CellsAt (w.setCells b (0 + i * 1) (byteCells (l.drop (i + 1)))) b (l.take i ++ l.drop (i + 1)) := fun j u hj => by
  have hlen : (byteCells (l.drop (i + 1))).length = l.length - (i + 1) := by rw [byteCells_len, List.length_drop]
  have htk : (l.take i).length = i := by rw [List.length_take]; omega
  rcases Nat.lt_or_ge j i with hji | hji
  · rw [World.cell?_setCells_out b _ _ w ⟨b, j, none⟩ (fun _ _ => .inl (by show j < 0 + i * 1; omega))]
    rw [List.getElem?_append_left (by omega), List.getElem?_take, if_pos hji] at hj
    exact h j u hj
  · rw [List.getElem?_append_right (by omega), htk] at hj
    have hj1 : j - i < (l.drop (i + 1)).length := (List.getElem?_eq_some_iff.1 hj).1
    rw [List.length_drop] at hj1
    have hin := World.cell?_setCells_in b (byteCells (l.drop (i + 1))) (0 + i * 1) w (fun q hq => by
      rw [hlen] at hq
      rw [h (0 + i * 1 + q) _ (List.getElem?_eq_getElem (by omega))]
      rfl) (j - i) (by rw [hlen]; exact hj1)
    rw [show 0 + i * 1 + (j - i) = j by omega] at hin
    rw [hin]
    unfold byteCells
    rw [List.getElem_map]
    rw [List.getElem?_eq_getElem (by rw [List.length_drop]; exact hj1)] at hj
    injection hj with hj
    rw [hj]
theorem CellsAt.put {w : World} {b : Nat} {l : (List UInt8)} (h : CellsAt w b l) (i : Nat) (x : UInt8) (hi : i ≤ l.length) (hs : ∀ q, q < l.length - i + 1 → (w.cell? ⟨b, 0 + i * 1 + q, none⟩).isSome = true) :
    CellsAt (w.setCells b (0 + i * 1) (byteCells (x :: l.drop i))) b (l.take i ++ x :: l.drop i) := fun j u hj => by
  have hlen : (byteCells (x :: l.drop i)).length = l.length - i + 1 := by rw [byteCells_len, List.length_cons, List.length_drop]
  have htk : (l.take i).length = i := by rw [List.length_take]; omega
  rcases Nat.lt_or_ge j i with hji | hji
  · rw [World.cell?_setCells_out b _ _ w ⟨b, j, none⟩ (fun _ _ => .inl (by show j < 0 + i * 1; omega))]
    rw [List.getElem?_append_left (by omega), List.getElem?_take, if_pos hji] at hj
    exact h j u hj
  · rw [List.getElem?_append_right (by omega), htk] at hj
    have hj1 : j - i < (x :: l.drop i).length := (List.getElem?_eq_some_iff.1 hj).1
    have hj2 : j - i < l.length - i + 1 := by simpa using hj1
    have hin := World.cell?_setCells_in b (byteCells (x :: l.drop i)) (0 + i * 1) w (fun q hq => by rw [hlen] at hq; exact hs q hq) (j - i) (by rw [hlen]; exact hj2)
    rw [show 0 + i * 1 + (j - i) = j by omega] at hin
    rw [hin]
    unfold byteCells
    rw [List.getElem_map]
    rw [List.getElem?_eq_getElem hj1] at hj
    injection hj with hj
    rw [hj]
set_option maxHeartbeats 4000000 in
set_option maxRecDepth 100000 in
theorem spoil_any (g c k : Nat) (A : Option Addr) (L : List Int) (s signs : ByteArray) (hs : s.size ≤ 100000000) (hs1 : 1 ≤ signs.size) (hs2 : signs.size ≤ 1000) (w : World) (h : DiceAt w g A L c k) :
    Calls Tryz.prog 26 #[.pointer (some ⟨g, 0, none⟩), .string s, .string signs] w (SpoilOut g c A L s w) := by
  have k1 := run_bytes_of_string (P := Tryz.prog) w 9 91 5 s Tryz.underlying9 Tryz.underlying91 Tryz.underlying5
  have hgc := grownCap_ge w s.size 0 5
  have hgl := h.lt
  obtain ⟨G, hG⟩ : ∃ G, grownCap w s.size 0 5 = G := ⟨_, rfl⟩
  rw [hG] at k1 hgc
  obtain ⟨w1, hw1⟩ : ∃ w1, w.drew.alloc (.cells (bytesRow s G) 5 ((bytesRow s G).size, (bytesRow s G).size + 1)) = w1 := ⟨_, rfl⟩
  rw [hw1] at k1
  have hb1 : Below w.heap.size w w1 := by rw [← hw1]; exact ((Below.refl _ w).drew).alloc (Nat.le_refl _) _
  have hd1 := h.below hb1 hgl
  have hrow : w1.heap[w.heap.size]? = some (.cells (bytesRow s G) 5 ((bytesRow s G).size, (bytesRow s G).size + 1)) := by rw [← hw1]; exact heap_alloc_new w.drew _
  have cN := next_any g c k A L (signs.size : Int) (by omega) w1 hd1
  have CN := hid cN
  have HROW := hid hrow
  have HB1 := hid hb1
  clear hw1 hG cN hd1 h hrow hb1
  go_enter Tryz.func26, Tryz.ntmps26
  go_wp2_with fail
  refine CN.out.mono ?_
  rintro e w2 ⟨⟨r, rfl, hr⟩, ⟨k2, hd2⟩, hR2⟩
  obtain ⟨hr0, hr1⟩ := hr (by omega)
  obtain ⟨m, rfl⟩ : ∃ m : Nat, r = (m : Int) := ⟨r.toNat, by omega⟩
  have hmlt : m < signs.size := by omega
  obtain ⟨x, hx⟩ : ∃ x, signs[m]'hmlt = x := ⟨_, rfl⟩
  have hP2 := ((Played.refl w.heap.size g w).below HB1.out).rolled hR2
  have hrow2 := (hR2.block w.heap.size (by omega)).trans HROW.out
  have HP2 := hid hP2
  have HROW2 := hid hrow2
  clear hr hP2 hrow2 hR2 CN HB1 HROW
  by_cases h0 : s.size = 0
  · have h0b : ((s.size : Int) == 0) = true := by simp [h0]
    obtain ⟨w3, hw3⟩ : ∃ w3, w2.alloc (.cells #[.int .u8 (x.toNat : Int)] 5) = w3 := ⟨_, rfl⟩
    have hb3 : Below w2.heap.size w2 w3 := by rw [← hw3]; exact (Below.refl _ w2).alloc (Nat.le_refl _) _
    have hc3 : CellsAt w3 w2.heap.size [x] := fun j u hj => by
      rw [← hw3]
      match j, hj with
      | 0, hj => simp at hj; subst hj; simp
      | j + 1, hj => simp at hj
    have hcv := hc3.conv (P := Tryz.prog) 1 91 5 9 Tryz.underlying91 Tryz.underlying5 Tryz.underlying9
    rw [show [x].length = 1 from rfl] at hcv
    have hD3 := hd2.below hb3 hd2.lt
    have hP3 := HP2.out.trans (Played.refl w2.heap.size g w2 |>.below hb3) HP2.out.size
    have HD3 := hid hD3
    have HP3 := hid hP3
    clear hd2 hD3 hP3 hb3 hc3
    go_wp2
    go_ret
    exact ⟨⟨[x], rfl, by simp⟩, ⟨k2, HD3.out⟩, HP3.out⟩
  · have h0b : ((s.size : Int) == 0) = false := by simpa using h0
    have hc2 : CellsAt w2 w.heap.size s.data.toList := fun j u hj => by
      have hj' : j < s.data.size := by
        have := (List.getElem?_eq_some_iff.1 hj).1
        simpa using this
      rw [Lib.cell_of_heap HROW2.out, bytesRow_at s G j hj']
      rw [List.getElem?_eq_getElem (by simpa using hj')] at hj
      simp at hj
      subst hj
      rfl
    have hbs : (bytesRow s G).size = G := by
      unfold bytesRow
      rw [Array.size_append, Array.size_map, Array.size_replicate]
      have : s.data.size = s.size := rfl
      omega
    have hfz : ∀ j, j < G → w2.frozen? ⟨w.heap.size, j, none⟩ = false := fun j hj => by
      simp [World.frozen?, HROW2.out, hbs]
      omega
    have hsm : ∀ j, j < G → (w2.cell? ⟨w.heap.size, j, none⟩).isSome = true := fun j hj => by
      rw [Lib.cell_of_heap HROW2.out, Array.getElem?_eq_getElem (by rw [hbs]; exact hj)]
      rfl
    have HSM := hid hsm
    clear hsm hbs
    have hsl : s.data.toList.length = s.size := (Lib.size_eq s).symm
    obtain ⟨l, hl⟩ : ∃ l, s.data.toList = l := ⟨_, rfl⟩
    rw [hl] at hc2 hsl
    have cN := next_any g c k2 A L (s.size : Int) (by omega) w2 hd2
    have HC2 := hid hc2
    have HFZ := hid hfz
    have HSL := hid hsl
    have CN := hid cN
    clear hc2 hfz hsl hl cN hd2 HROW2
    go_wp2_with fail
    refine CN.out.mono ?_
    rintro e w3 ⟨⟨r, rfl, hr⟩, ⟨k3, hd3⟩, hR3⟩
    obtain ⟨hr0, hr1⟩ := hr (by omega)
    obtain ⟨i, rfl⟩ : ∃ i : Nat, r = (i : Int) := ⟨r.toNat, by omega⟩
    have hilt : i < s.size := by omega
    have hP3 := HP2.out.rolled hR3
    have hblk3 := hR3.block w.heap.size (by omega)
    have cN := next_any g c k3 A L 3 (by omega) w3 hd3
    have HP3 := hid hP3
    have HB3 := hid hblk3
    have CN3 := hid cN
    clear hr hd3 hR3 hP3 hblk3 cN CN HP2
    go_wp2_with fail
    refine CN3.out.mono ?_
    rintro e w4 ⟨⟨r, rfl, hr⟩, ⟨k4, hd4⟩, hR4⟩
    obtain ⟨hr0', hr1'⟩ := hr (by omega)
    have hP4 := HP3.out.rolled hR4
    have hblk4 := (hR4.block w.heap.size (by omega)).trans HB3.out
    have hc4 := HC2.out.kept hblk4
    have hfz4 : ∀ j, j < G → w4.frozen? ⟨w.heap.size, j, none⟩ = false := fun j hj => (World.frozen?_of_block (w := w2) hblk4).trans (HFZ.out j hj)
    have hsm4 : ∀ j, j < G → (w4.cell? ⟨w.heap.size, j, none⟩).isSome = true := fun j hj => by rw [World.cell?_of_block (w := w2) hblk4]; exact HSM.out j hj
    have HSM4 := hid hsm4
    clear hsm4 HSM
    have hli : i < l.length := by rw [HSL.out]; exact hilt
    have HP4 := hid hP4
    have HC4 := hid hc4
    have HFZ4 := hid hfz4
    have HD4 := hid hd4
    clear hr hd4 hR4 hP4 hblk4 hc4 hfz4 CN3 HP3 HB3 HC2 HFZ
    rcases (show r = 0 ∨ r = 1 ∨ r = 2 by omega) with rfl | rfl | rfl
    · have hcell := HC4.out i _ (List.getElem?_eq_getElem hli)
      have hfi := HFZ4.out i (by omega)
      have hiz : (i : Int) < (s.size : Int) := by omega
      obtain ⟨w5, hw5⟩ : ∃ w5, w4.setCell ⟨w.heap.size, i, none⟩ (.int .u8 (x.toNat : Int)) = w5 := ⟨_, rfl⟩
      have hc5 : CellsAt w5 w.heap.size (l.set i x) := by rw [← hw5]; exact HC4.out.set i x hli
      have hcv := hc5.conv (P := Tryz.prog) G 91 5 9 Tryz.underlying91 Tryz.underlying5 Tryz.underlying9
      rw [List.length_set, HSL.out] at hcv
      have hb5 : Below w.heap.size w4 w5 := by rw [← hw5]; exact (Below.refl w.heap.size w4).setCell (p := ⟨w.heap.size, i, none⟩) (Nat.le_refl _) _
      have hD5 := HD4.out.below hb5 hgl
      have hP5 := HP4.out.below hb5
      have HD5 := hid hD5
      have HP5 := hid hP5
      clear hD5 hP5 hb5 hc5 HD4 HP4 HC4 HFZ4
      go_wp2
      go_ret
      exact ⟨⟨l.set i x, rfl, by rw [List.length_set, HSL.out]; omega⟩, ⟨k4, HD5.out⟩, HP5.out⟩
    · have e1 : IntKind.i64.wrap ((i : Int) + 1) = (i : Int) + 1 := IntWalk.i64_in _ (by omega)
      have hiz : (i : Int) ≤ (s.size : Int) := by omega
      have hiG : (i : Int) ≤ (G : Int) := by omega
      have hi1 : (i : Int) + 1 ≤ (s.size : Int) := by omega
      have h01 : (0 : Int) ≤ (i : Int) + 1 := by omega
      have htn : ((i : Int) + 1).toNat = i + 1 := by omega
      by_cases hG1 : G = i + 1
      · have hii : (i : Int) ≤ (i : Int) + 1 := by omega
        have hii' : i ≤ i + 1 := by omega
        clear hiG
        subst hG1
        go_upto_region 11 with fail
        go_still_tail 7, (by kernel_rfl)
        change wpList _ _ _ _ _ w4.drew
        generalize hw5 : w4.drew = w5
        have hc5 : CellsAt w5 w.heap.size l := by rw [← hw5]; exact HC4.out
        have hfz5 : ∀ j, j < i + 1 → w5.frozen? ⟨w.heap.size, j, none⟩ = false := by rw [← hw5]; exact HFZ4.out
        have hD5 : DiceAt w5 g A L c k4 := by rw [← hw5]; exact HD4.out.drawn 1
        have hP5 : Played w.heap.size g w w5 := by rw [← hw5]; exact ⟨HP4.out.os, HP4.out.tape, HP4.out.output, HP4.out.size, HP4.out.block⟩
        obtain ⟨i5, hi5, hz5, hsi5, hby5⟩ := info_parts infoByte
        have hdl : (l.drop (i + 1)).length = s.size - (i + 1) := by rw [List.length_drop, HSL.out]
        have htl : (l.take i).length = i := by rw [List.length_take]; omega
        have HC5 := hid hc5
        have HF5 := hid hfz5
        have HD5 := hid hD5
        have HP5 := hid hP5
        have HDL := hid hdl
        have HTL := hid htl
        clear hc5 hfz5 hD5 hP5 hdl htl hw5 HD4 HP4 HC4 HFZ4
        have hc6 : CellsAt w5 w.heap.size (l.take i) := fun j u hj => by
          rw [List.getElem?_take] at hj
          split at hj
          · exact HC5.out j u hj
          · simp at hj
        have hcv := hc6.conv (P := Tryz.prog) (i + 1) 91 5 9 Tryz.underlying91 Tryz.underlying5 Tryz.underlying9
        rw [HTL.out] at hcv
        have HCV := hid hcv
        clear hc6 hcv
        refine wpList_append_arg _ rfl _ _ 91 rfl 5 i5 (.int .u8 0) 1 1 Tryz.underlying91 hi5 hz5 hsi5 hby5 rfl (by decide) w.heap.size 0 i (i + 1) (byteCells (l.take i)) rfl (by rw [byteCells_len, HTL.out, Nat.mul_one]) (HC5.out.take i) ⟨w.heap.size, 0, none⟩ 0 0 [] rfl rfl (fun j u hj => by simp at hj) (fun u hu => by simp at hu) (fun _ j hj => by simp at hj) (by unfold maxLen; omega) (by omega) (fun _ => ?_) (fun hgr => absurd hgr (by omega))
        rw [show w5.setCells w.heap.size (0 + i * 1) [] = w5 from rfl, Nat.add_zero]
        have hcv := HCV.out
        go_wp2
        go_ret
        exact ⟨⟨l.take i, rfl, by rw [HTL.out]; omega⟩, ⟨k4, HD5.out⟩, HP5.out⟩
      · go_upto_region 11 with fail
        go_still_tail 7, (by kernel_rfl)
        change wpList _ _ _ _ _ w4.drew
        generalize hw5 : w4.drew = w5
        have hc5 : CellsAt w5 w.heap.size l := by rw [← hw5]; exact HC4.out
        have hfz5 : ∀ j, j < G → w5.frozen? ⟨w.heap.size, j, none⟩ = false := by rw [← hw5]; exact HFZ4.out
        have hD5 : DiceAt w5 g A L c k4 := by rw [← hw5]; exact HD4.out.drawn 1
        have hP5 : Played w.heap.size g w w5 := by rw [← hw5]; exact ⟨HP4.out.os, HP4.out.tape, HP4.out.output, HP4.out.size, HP4.out.block⟩
        obtain ⟨i5, hi5, hz5, hsi5, hby5⟩ := info_parts infoByte
        have hdl : (l.drop (i + 1)).length = s.size - (i + 1) := by rw [List.length_drop, HSL.out]
        have htl : (l.take i).length = i := by rw [List.length_take]; omega
        have HC5 := hid hc5
        have HF5 := hid hfz5
        have HD5 := hid hD5
        have HP5 := hid hP5
        have HDL := hid hdl
        have HTL := hid htl
        clear hc5 hfz5 hD5 hP5 hdl htl hw5 HD4 HP4 HC4 HFZ4
        have HSP : Hid (i + (s.size - (i + 1)) ≤ G → ∀ j, j < (byteCells (l.drop (i + 1))).length → (w5.cell? ⟨w.heap.size, 0 + i * 1 + j, none⟩).isSome = true ∧ w5.frozen? ⟨w.heap.size, 0 + i * 1 + j, none⟩ = false) := hid fun _ j hj => by
          rw [byteCells_len, HDL.out] at hj
          exact ⟨by rw [HC5.out (0 + i * 1 + j) _ (List.getElem?_eq_getElem (by rw [HSL.out]; omega))]; rfl, HF5.out _ (by omega)⟩
        have HM1 : Hid (i + (s.size - (i + 1)) ≤ maxLen) := by unfold maxLen; exact hid (by omega)
        have HM2 : Hid ((i + (s.size - (i + 1))) * 1 ≤ 140737488355328) := hid (by omega)
        have HM3 : Hid (¬ G < i + (s.size - (i + 1))) := hid (by omega)
        refine wpList_append_arg _ rfl _ _ 91 rfl 5 i5 (.int .u8 0) 1 1 Tryz.underlying91 hi5 hz5 hsi5 hby5 rfl (by decide) w.heap.size 0 i G (byteCells (l.take i)) rfl (by rw [byteCells_len, HTL.out, Nat.mul_one]) (HC5.out.take i) ⟨w.heap.size, i + 1, none⟩ (s.size - (i + 1)) _ (byteCells (l.drop (i + 1))) rfl (by rw [byteCells_len, HDL.out, Nat.mul_one]) (HC5.out.drop (i + 1)) (byteCells_one _) HSP.out HM1.out HM2.out (fun _ => ?_) (fun hgr => absurd hgr HM3.out)
        · have hb6 := below_setCells (Nat.le_refl w.heap.size) (byteCells (l.drop (i + 1))) (0 + i * 1) w5
          have hcv := (HC5.out.shut i hli).conv (P := Tryz.prog) G 91 5 9 Tryz.underlying91 Tryz.underlying5 Tryz.underlying9
          rw [List.length_append, HTL.out, HDL.out] at hcv
          generalize w5.setCells w.heap.size (0 + i * 1) (byteCells (l.drop (i + 1))) = w6 at hb6 hcv ⊢
          have HD6 := hid (HD5.out.below hb6 hgl)
          have HP6 := hid (HP5.out.below hb6)
          clear hb6
          go_wp2
          go_ret
          exact ⟨⟨l.take i ++ l.drop (i + 1), rfl, by rw [List.length_append, HTL.out, HDL.out]; omega⟩, ⟨k4, HD6.out⟩, HP6.out⟩
    · have hiz : (i : Int) ≤ (s.size : Int) := by omega
      have hiG : (i : Int) ≤ (G : Int) := by omega
      have hiGn : i < G := by omega
      have h0z : (0 : Int) ≤ (i : Int) := by omega
      obtain ⟨i5, hi5, hz5, hsi5, hby5⟩ := info_parts infoByte
      have HL1 : Hid ((byteCells (l.drop i)).length = s.size - i) := hid (by rw [byteCells_len, List.length_drop, HSL.out])
      have HL2 : Hid ((byteCells (l.take i)).length = i) := hid (by rw [byteCells_len, List.length_take]; omega)
      have HM1 : Hid (1 + (s.size - i) ≤ maxLen) := by unfold maxLen; exact hid (by omega)
      have HM2 : Hid ((1 + (s.size - i)) * 1 ≤ 140737488355328) := hid (by omega)
      have HM3 : Hid (1 < 1 + (s.size - i)) := hid (by omega)
      have hz4' : w.heap.size < w4.heap.size := World.block_lt_of_cell? w4 _ (HC4.out i _ (List.getElem?_eq_getElem hli))
      have hz4 : w.heap.size ≤ w4.heap.size := Nat.le_of_lt hz4'
      by_cases hroom : s.size + 1 ≤ G
      · go_upto_region 7 with fail
        go_region_law (first
          | (refine step_append_room ?_ (.tmp 32) (.tmp 38) 91 ?_ 5 i5 1 Tryz.underlying91 hi5 hsi5 w.heap.size 0 i G ?_ ⟨g7, 0, none⟩ (1 + (s.size - i)) cap7 (byteCells (x :: l.drop i)) ?_ ?_ ?_ ?_ ?_ ?_ ?_
             · rfl
             · rfl
             · simp [Act.eval]
             · simp [Act.eval]
             · rw [byteCells_len, List.length_cons, List.length_drop, HSL.out]; omega
             · exact fun j u hj => World.ownsRow.cells HOWN.out (g := g7) rfl j u hj
             · exact byteCells_one _
             · omega
             · intro j hj
               rw [byteCells_len, List.length_cons, List.length_drop, HSL.out] at hj
               exact ⟨by rw [World.cell?_of_block (w := w4) HBLK.out]; exact HSM4.out _ (by omega), (World.frozen?_of_block (w := w4) HBLK.out).trans (HFZ4.out _ (by omega))⟩)
          |
          (refine step_append_grows ?_ (.tmp 34) (.tmp 37) 91 ?_ 5 i5 (.int .u8 0) 1 1 Tryz.underlying91 hi5 hz5 hsi5 hby5 ?_ ?_ (some ⟨w4.heap.size, 0, none⟩) 1 1 [.int .u8 (x.toNat : Int)] ?_ ?_ ?_ ?_ ⟨w.heap.size, i, none⟩ (s.size - i) (G - i) (byteCells (l.drop i)) ?_ ?_ ?_ ?_ HM3.out HM1.out HM2.out ?_
           · rfl
           · rfl
           · rfl
           · decide
           · simp [Act.eval]
           · intro h; cases h
           · rfl
           · rintro b ⟨rfl⟩ j u hj
             match j, hj with
             | 0, hj => simp at hj; subst hj; rw [Addr.add_lit]; exact (show (w4.alloc (.cells #[.int .u8 (x.toNat : Int)] 5)).cell? ⟨w4.heap.size, 0, none⟩ = _ from by rw [Lib.cell_of_heap (heap_alloc_new _ _)]; rfl)
             | j + 1, hj => simp at hj
           · simp [Act.eval]
             intro h
             omega
           · rw [HL1.out, Nat.mul_one]
           · intro j u hj
             have h8 := HC4.out.drop i j u hj
             rw [Addr.add_lit] at h8 ⊢
             exact (World.cell?_of_block (w := w4) (by exact Below.heap_alloc w4 _ w.heap.size hz4')).trans h8
           · exact byteCells_one _
           intro v' w7 hown hgrow
           obtain ⟨g7, cap7, rfl⟩ : ∃ g7 cap7, v' = .slice (some ⟨g7, 0, none⟩) (1 + (s.size - i)) cap7 := by
             rw [Nat.add_comm] at hown ⊢
             exact ownsRow_succ hown
           have HB47 := hid ((((Below.refl w.heap.size w4).alloc hz4 (.cells #[.int .u8 (x.toNat : Int)] 5)).drew).grown hgrow (by show w.heap.size ≤ (w4.alloc _).heap.size; simp; omega) (fun k e => by cases e))
           have HBLK := hid ((hgrow.block w.heap.size (by show w.heap.size < (w4.alloc _).heap.size; simp; omega) (by simp)).trans (by exact Below.heap_alloc w4 _ w.heap.size hz4'))
           have HOWN := hid hown
           clear hown hgrow))
        have hput := (HC4.out.kept HBLK.out).put i x (by omega) (fun q hq => by rw [World.cell?_of_block (w := w4) HBLK.out]; exact HSM4.out _ (by have := HSL.out; omega))
        have hcv := hput.conv (P := Tryz.prog) G 91 5 9 Tryz.underlying91 Tryz.underlying5 Tryz.underlying9
        have hlen : (l.take i ++ x :: l.drop i).length = i + (1 + (s.size - i)) := by
          rw [List.length_append, List.length_take, List.length_cons, List.length_drop, HSL.out]
          omega
        rw [hlen] at hcv
        have hb8 := below_setCells (Nat.le_refl w.heap.size) (byteCells (x :: l.drop i)) (0 + i * 1) w7
        have HLEN := hid hlen
        rw [show 0 + i * 1 = i by omega] at hb8 hcv
        clear hput hlen
        go_wp2_with fail
        generalize w7.setCells w.heap.size i (byteCells (x :: l.drop i)) = w8 at hb8 hcv ⊢
        have HD8 := hid (HD4.out.below (HB47.out.trans hb8) hgl)
        have HP8 := hid (HP4.out.below (HB47.out.trans hb8))
        clear hb8 HD4 HP4
        go_wp2
        go_ret
        exact ⟨⟨l.take i ++ x :: l.drop i, rfl, by rw [HLEN.out]; omega⟩, ⟨k4, HD8.out⟩, HP8.out⟩
      · have HM4 : Hid (G < i + (1 + (s.size - i))) := hid (by omega)
        have HM5 : Hid (i + (1 + (s.size - i)) ≤ maxLen) := by unfold maxLen; exact hid (by omega)
        have HM6 : Hid ((i + (1 + (s.size - i))) * 1 ≤ 140737488355328) := hid (by omega)
        go_upto_region 7 with fail
        go_region_law (first
          | (refine step_append_grows ?_ (.tmp 32) (.tmp 38) 91 ?_ 5 i5 (.int .u8 0) 1 1 Tryz.underlying91 hi5 hz5 hsi5 hby5 ?_ ?_ (some ⟨w.heap.size, 0, none⟩) i G (byteCells (l.take i)) ?_ ?_ ?_ ?_ ⟨g7, 0, none⟩ (1 + (s.size - i)) cap7 (byteCells (x :: l.drop i)) ?_ ?_ ?_ ?_ HM4.out HM5.out HM6.out ?_
             · rfl
             · rfl
             · rfl
             · decide
             · simp [Act.eval]
             · intro h; cases h
             · rw [HL2.out, Nat.mul_one]
             · rintro b ⟨rfl⟩ j u hj
               have h8 := HC4.out.take i j u hj
               rw [Addr.add_lit]
               exact (World.cell?_of_block (w := w4) HBLK.out).trans h8
             · simp [Act.eval]
             · rw [byteCells_len, List.length_cons, List.length_drop, HSL.out]; omega
             · exact fun j u hj => World.ownsRow.cells HOWN.out (g := g7) rfl j u hj
             · exact byteCells_one _
             intro v' w8 hown8 hgrow8
             have HOWN8 := hid hown8
             have HB78 := hid ((Below.refl w.heap.size w7).grown hgrow8 HB47'.out (fun k e => by cases e))
             clear hown8 hgrow8)
          |
          (refine step_append_grows ?_ (.tmp 34) (.tmp 37) 91 ?_ 5 i5 (.int .u8 0) 1 1 Tryz.underlying91 hi5 hz5 hsi5 hby5 ?_ ?_ (some ⟨w4.heap.size, 0, none⟩) 1 1 [.int .u8 (x.toNat : Int)] ?_ ?_ ?_ ?_ ⟨w.heap.size, i, none⟩ (s.size - i) (G - i) (byteCells (l.drop i)) ?_ ?_ ?_ ?_ HM3.out HM1.out HM2.out ?_
           · rfl
           · rfl
           · rfl
           · decide
           · simp [Act.eval]
           · intro h; cases h
           · rfl
           · rintro b ⟨rfl⟩ j u hj
             match j, hj with
             | 0, hj => simp at hj; subst hj; rw [Addr.add_lit]; exact (show (w4.alloc (.cells #[.int .u8 (x.toNat : Int)] 5)).cell? ⟨w4.heap.size, 0, none⟩ = _ from by rw [Lib.cell_of_heap (heap_alloc_new _ _)]; rfl)
             | j + 1, hj => simp at hj
           · simp [Act.eval]
             intro h
             omega
           · rw [HL1.out, Nat.mul_one]
           · intro j u hj
             have h8 := HC4.out.drop i j u hj
             rw [Addr.add_lit] at h8 ⊢
             exact (World.cell?_of_block (w := w4) (by exact Below.heap_alloc w4 _ w.heap.size hz4')).trans h8
           · exact byteCells_one _
           intro v' w7 hown hgrow
           obtain ⟨g7, cap7, rfl⟩ : ∃ g7 cap7, v' = .slice (some ⟨g7, 0, none⟩) (1 + (s.size - i)) cap7 := by
             rw [Nat.add_comm] at hown ⊢
             exact ownsRow_succ hown
           have HB47 := hid ((((Below.refl w.heap.size w4).alloc hz4 (.cells #[.int .u8 (x.toNat : Int)] 5)).drew).grown hgrow (by show w.heap.size ≤ (w4.alloc _).heap.size; simp; omega) (fun k e => by cases e))
           have HBLK := hid ((hgrow.block w.heap.size (by show w.heap.size < (w4.alloc _).heap.size; simp; omega) (by simp)).trans (by exact Below.heap_alloc w4 _ w.heap.size hz4'))
           have HB47' := hid (Nat.le_trans hz4 HB47.out.size)
           have HOWN := hid hown
           clear hown hgrow))
        have hlen : (l.take i ++ x :: l.drop i).length = i + (1 + (s.size - i)) := by
          rw [List.length_append, List.length_take, List.length_cons, List.length_drop, HSL.out]
          omega
        have hrow : w8.ownsRow w7.heap.size 5 1 v' (l.take i ++ x :: l.drop i).length (byteCells (l.take i ++ x :: l.drop i)) := by
          rw [byteCells_app, hlen]
          exact HOWN8.out
        have hcv := row_string (P := Tryz.prog) hrow 91 5 9 Tryz.underlying91 Tryz.underlying5 Tryz.underlying9
        rw [hlen] at hrow
        obtain ⟨A8, c8, rfl⟩ := row_slice hrow
        have HLEN := hid hlen
        have HD8 := hid (HD4.out.below (HB47.out.trans HB78.out) hgl)
        have HP8 := hid (HP4.out.below (HB47.out.trans HB78.out))
        clear hrow hlen HD4 HP4 HOWN8 HOWN
        go_wp2
        go_ret
        exact ⟨⟨l.take i ++ x :: l.drop i, rfl, by rw [HLEN.out]; omega⟩, ⟨k4, HD8.out⟩, HP8.out⟩
end Go.Proofs.YtnpfmoalgphkcaaGreatDoor
