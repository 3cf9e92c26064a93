/-
  That the specification finds equal tables equal: Same of the specification of travel. Conditions: the tables lie in memory.
  That the specification finds equal lists of rooms, of times, of problems equal. Conditions: the lists lie in memory.
-/
import Derived.Test.YtocmbifljkcmeaaDoorTN01
import Derived.Test.YtocmbifljkcmeaaDoorTN02
import Derived.Test.YtocmbifljkcmeaaDoorTN04
import Derived.Test.YtocmbifljkcmeaaDoorTN05
import Derived.Test.YtocmbifljkcmeaaDoorProg
import Derived.WalkKit
import Derived.WalkSpells
import Derived.WalkLawsBesides
import Derived.Lib.Hide
import Derived.Deep.QuietTactic
import Derived.BigQuiet
import Derived.Laws.Rows
import Derived.OwnWalk
import Derived.Lib.BufferWrite
import Derived.Lib.UnsafeStr
import Derived.Laws.IdiomStrings
import Derived.Laws.BytesArg
import Derived.Laws.BytesString
import Derived.Laws.OwnMore
import Derived.Lib.IndexLaws
import Derived.Lib.ItoaNum
import Derived.Lib.Atoi
import Derived.Lib.Bytealg
import Derived.Handy
import Derived.Laws.ResultCell
import Derived.RegionTactic
import Derived.Deep.DeepCutAuto
import Derived.Deep.CutBlock
import Derived.Deep.RegionHeld3
import Derived.Deep.RegionLaw
import Derived.Deep.RegionWith
import Derived.Deep.AppendLies
import Derived.Maps.AppendAt
import Derived.StillTailTactics
import Derived.Shelf.Abstract
import Derived.Lib.SliceRun
import Derived.RangeFuncBox
set_option linter.unusedVariables false
namespace Go.Proofs.YtocmbifljkcmeaaDoor
open Go Go.Proofs Go.RowKit Go.Lib

/-- The boxes of two tables, of a call that began in w0. -/
structure KS (w0 : World) (v0 v1 u0 u1 : Value) (w : World) : Prop where
  a : Box2 w w0.heap.size 25 v0 v1
  b : Box2 w (w0.heap.size + 1) 25 u0 u1
  u : Below w0.heap.size w0 w
theorem KS.next {w0 w w' : World} {v0 v1 u0 u1 : Value} (h : KS w0 v0 v1 u0 u1 w) (k : Below w.heap.size w w') : KS w0 v0 v1 u0 u1 w' := ⟨h.a.next k, h.b.next k, h.u.trans (k.mono h.u.size)⟩
theorem KS.first (w : World) (v0 v1 u0 u1 : Value) : KS w v0 v1 u0 u1 ((w.alloc (.cells #[v0, v1] 25)).alloc (.cells #[u0, u1] 25)) := by
  have h1 := Box2.new w 25 v0 v1
  have hb := (Below.refl w.heap.size w).alloc (Nat.le_refl _) (.cells #[v0, v1] 25)
  have hs : (w.alloc (.cells #[v0, v1] 25)).heap.size = w.heap.size + 1 := by simp
  generalize w.alloc (.cells #[v0, v1] 25) = w1 at h1 hb hs ⊢
  have h2 := Box2.new w1 25 u0 u1
  rw [hs] at h2
  exact ⟨h1.next ((Below.refl _ w1).alloc (Nat.le_refl _) _), h2, hb.alloc (by omega) _⟩
set_option maxHeartbeats 8000000 in
set_option maxRecDepth 100000 in
theorem same8_any (A S A' S' : Option Addr) (l : List Str) (R : List (List Int)) (c d c' d' : Nat) (w : World) (h : TravIn w (fun b => b < w.heap.size) A S (l, R)) (h' : TravIn w (fun b => b < w.heap.size) A' S' (l, R)) (h63 : l.length ≤ 9223372036854775807)
    (h64 : R.length ≤ 9223372036854775807) (hr64 : ∀ i, (R.getD i []).length ≤ 9223372036854775807) :
    Calls Tryd.prog 13 #[.agg #[.slice A l.length c, .slice S R.length d], .agg #[.slice A' l.length c', .slice S' R.length d']] w (Says (.bool true) w) := by
  unfold Says
  have hk := KS.first w (.slice A l.length c) (.slice S R.length d) (.slice A' l.length c') (.slice S' R.length d')
  have hh := fun (w' : World) (hb : Below w.heap.size w w') => And.intro (h.below hb) (h'.below hb)
  have cS := fun (w' : World) (hb : Below w.heap.size w w') => S3.sameStrings_any A A' l l c c' _ _ w' (hh w' hb).1.b (hh w' hb).2.b h63
  rw [decide_eq_true rfl] at cS
  have HS := hid (fun (w' : World) (hb : Below w.heap.size w w') => And.intro (hh w' hb).1.s (hh w' hb).2.s)
  obtain ⟨L, hL⟩ : ∃ L, l.length = L := ⟨_, rfl⟩
  rw [hL] at hk cS
  rw [hL]
  have HK := hid hk
  have CS := hid cS
  clear hk hh cS hL h h' h63
  have x0 := HK.out.a.c0
  have x1 := HK.out.a.c1
  have y0 := HK.out.b.c0
  have y1 := HK.out.b.c1
  go_enter Tryd.func13, Tryd.ntmps13
  go_wp2_with fail
  generalize World.alloc _ _ = wb at HK x0 x1 y0 y1 ⊢
  refine (CS.out _ HK.out.u).mono ?_
  rintro e w1 ⟨rfl, q, rfl⟩
  have HK1 := hid (HK.out.next (S3.below_drewN (Below.refl _ _) q))
  clear HK CS x0 x1 y0 y1
  have x0 := HK1.out.a.c0
  have x1 := HK1.out.a.c1
  have y0 := HK1.out.b.c0
  have y1 := HK1.out.b.c1
  generalize wb.drewN q = wc at HK1 x0 x1 y0 y1 ⊢
  go_wp2
  go_loopw [5] (fun iv wr => ∃ i : Nat, iv = .int .i64 (i : Int) ∧ i ≤ R.length ∧ Hid (KS w (.slice A L c) (.slice S R.length d) (.slice A' L c') (.slice S' R.length d') wr)) (fun iv _ => R.length - (RowKit.intOf iv).toNat)
  case atStart => exact ⟨0, rfl, Nat.zero_le _, HK1⟩
  case round =>
    clear HK1 x0 x1 y0 y1
    obtain ⟨i, rfl, hi, HK1⟩ := hrel
    have x0 := HK1.out.a.c0
    have x1 := HK1.out.a.c1
    have y0 := HK1.out.b.c0
    have y1 := HK1.out.b.c1
    by_cases hlt : i < R.length
    · have hltz : (i : Int) < (R.length : Int) := by omega
      have d1 : decide (R.length ≤ i) = false := decide_eq_false (by omega)
      obtain ⟨s1, s2⟩ := HS.out wr HK1.out.u
      obtain ⟨b1, o1, A1, c1, rfl, hb1, z1, _, _, n1⟩ := s1.at_ hlt
      obtain ⟨b2, o2, A2, c2, rfl, hb2, z2, _, _, n2⟩ := s2.at_ hlt
      have cI := fun q => sameInts_any A1 A2 (R.getD i []) (R.getD i []) c1 c2 _ _ (wr.drewN q) (n1.kept (w' := wr.drewN q) (fun b _ => (Rolled.drawn (b + 1) wr q).block b (by omega))).ints (n2.kept (w' := wr.drewN q) (fun b _ => (Rolled.drawn (b + 1) wr q).block b (by omega))).ints (hr64 i)
      rw [decide_eq_true rfl] at cI
      generalize (R.getD i []).length = NI at z1 z2 cI
      have CI := hid cI
      clear cI n1 n2 s1 s2
      go_wp2
      go_quiet ((go_at_call 34; with_reducible refine Calls.quiet_of (CI.out _)))
      have HK2 := hid (HK1.out.next (S3.below_drewN (Below.refl _ wr) nq))
      go_wp2
      go_roundw
      case rel => exact ⟨i + 1, by go_num, by omega, HK2⟩
      case measure => simp [RowKit.intOf]; omega
    · have hltz : ¬ (i : Int) < (R.length : Int) := by omega
      go_wp2
      go_ret
      exact ⟨rfl, HK1.out.u⟩
end Go.Proofs.YtocmbifljkcmeaaDoor

set_option linter.unusedVariables false
namespace Go.Proofs.YtocmbifljkcmeaaDoor
open Go Go.Proofs Go.RowKit Go.Lib

theorem probVals_get : ∀ (l : List ProbD) (j : Nat) (t : ProbD), l[j]? = some t → ∀ (i : Nat) (v : Value), (probVs t)[i]? = some v → (probVals l)[j * 4 + i]? = some v
  | [], j, t, h, _, _, _ => by simp at h
  | a :: r, 0, t, h, i, v, hv => by
    simp at h
    subst h
    have hi : i < 4 := (List.getElem?_eq_some_iff.1 hv).1
    unfold probVals
    rw [List.flatMap_cons, List.getElem?_append_left (by show _ < 4; omega)]
    simpa using hv
  | a :: r, j + 1, t, h, i, v, hv => by
    have := probVals_get r j t (by simpa using h) i v hv
    unfold probVals at this ⊢
    rw [List.flatMap_cons, List.getElem?_append_right (by show 4 ≤ _; omega)]
    show (List.flatMap probVs r)[(j + 1) * 4 + i - 4]? = _
    rw [show (j + 1) * 4 + i - 4 = j * 4 + i by omega]
    exact this
theorem ProbsRow.cell {w : World} {B : Nat} {v : Value} {l : List ProbD} (h : ProbsRow w B v l) {j : Nat} {p : ProbD} (hj : l[j]? = some p) :
    ∃ g cap, v = .slice (some ⟨g, 0, none⟩) l.length cap ∧ w.cell? ⟨g, j * 4, none⟩ = some (.int .i64 0) ∧ w.cell? ⟨g, j * 4 + 1, none⟩ = some (.int .i64 p.1) ∧ w.cell? ⟨g, j * 4 + 2, none⟩ = some (.int .i64 p.2.1) ∧ w.cell? ⟨g, j * 4 + 3, none⟩ = some (.int .i64 p.2.2) := by
  rcases h.2 with ⟨_, h0⟩ | ⟨g, cap, cur, hv, hB, _⟩
  · have := (List.getElem?_eq_some_iff.1 hj).1
    omega
  · have k : ∀ i u, (probVs p)[i]? = some u → w.cell? ⟨g, j * 4 + i, none⟩ = some u := fun i u hi => by
      have := World.ownsRow.cells h (g := g) (by rw [hv]; rfl) (j * 4 + i) u (probVals_get l j p hj i u hi)
      rwa [Addr.add_lit, Nat.zero_add] at this
    exact ⟨g, cap, hv, k 0 _ rfl, k 1 _ rfl, k 2 _ rfl, k 3 _ rfl⟩
set_option maxHeartbeats 4000000 in
set_option maxRecDepth 100000 in
theorem sameProbs_any (v v' : Value) (ps : List ProbD) (B B' : Nat) (w : World) (h : ProbsRow w B v ps) (h' : ProbsRow w B' v' ps) (hl : ps.length ≤ 1000000000) :
    Calls Tryd.prog 18 #[v, v'] w fun e w' => e = .returned (.bool true) ∧ ∃ q, w' = w.drewN q := by
  obtain ⟨A1, c1, rfl⟩ := S3.row_slice h
  obtain ⟨A2, c2, rfl⟩ := S3.row_slice h'
  have H := hid h
  have H' := hid h'
  clear h h'
  go_enter Tryd.func18, Tryd.ntmps18
  go_wp2
  go_loopw [5] (fun i wr => ∃ k : Nat, i = .int .i64 (k : Int) ∧ k ≤ ps.length ∧ ∃ q, wr = w.drewN q) (fun i _ => ps.length - (RowKit.intOf i).toNat)
  case atStart => exact ⟨0, rfl, Nat.zero_le _, 0, rfl⟩
  case round =>
    obtain ⟨k, rfl, hk, q, rfl⟩ := hrel
    by_cases hlt : k < ps.length
    · have hltz : (k : Int) < (ps.length : Int) := by omega
      obtain ⟨p, hp⟩ : ∃ p, ps[k]? = some p := ⟨_, List.getElem?_eq_getElem hlt⟩
      obtain ⟨g, cap', hv, a0, a1, a2, a3⟩ := H.out.cell hp
      injection hv with hA _ hcp
      subst hA hcp
      obtain ⟨g', cap', hv, b0, b1, b2, b3⟩ := H'.out.cell hp
      injection hv with hA _ hcp
      subst hA hcp
      obtain ⟨pl, pc, pe⟩ := p
      dsimp only at a0 a1 a2 a3 b0 b1 b2 b3
      clear hp
      go_wp2
      go_quiet (fail)
      go_wp2
      go_roundw
      case rel => exact ⟨k + 1, by go_num, by omega, q + nq, by first | rfl | rw [World.drewN_drewN]⟩
      case measure => simp [RowKit.intOf]; omega
    · have hltz : ¬ (k : Int) < (ps.length : Int) := by omega
      go_wp2
      go_ret
      exact ⟨rfl, q, rfl⟩
end Go.Proofs.YtocmbifljkcmeaaDoor

