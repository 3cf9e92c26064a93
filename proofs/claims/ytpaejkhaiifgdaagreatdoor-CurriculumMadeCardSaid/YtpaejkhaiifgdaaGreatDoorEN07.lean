/-
  Lists of lists of strings: Plain of the specification of records, SameLists. Conditions: the lists lie in memory.
  Small general facts and definitions, taken out of RBL. No program.
  The program's Write of curriculum: writeFields, Write of package entries, Write. Conditions: the curricula lie in memory; the variables hold what their text lays.
  Whether a string is in a list: timetablemade.has, timetableref02.Has. Conditions: the strings lie in memory.
  The first error of curricula by the specification: Valid. Conditions: the curricula lie in memory.
-/
import Derived.Test.YtpaejkhaiifgdaaGreatDoorGN01
import Derived.Test.YtpaejkhaiifgdaaGreatDoorGN02
import Derived.Test.YtpaejkhaiifgdaaGreatDoorGN03
import Derived.Test.YtpaejkhaiifgdaaGreatDoorGN04
import Derived.Test.YtpaejkhaiifgdaaGreatDoorGN05
import Derived.Test.YtpaejkhaiifgdaaGreatDoorGN06
import Derived.Test.YtpaejkhaiifgdaaGreatDoorGN07
import Derived.Test.YtpaejkhaiifgdaaGreatDoorGN08
import Derived.Test.YtpaejkhaiifgdaaGreatDoorGN09
import Derived.Test.YtpaejkhaiifgdaaGreatDoorGN10
import Derived.Test.YtpaejkhaiifgdaaGreatDoorGN11
import Derived.Test.YtpaejkhaiifgdaaGreatDoorGN12
import Derived.Test.YtpaejkhaiifgdaaGreatDoorGN13
import Derived.Test.YtpaejkhaiifgdaaGreatDoorGN14
import Derived.Test.YtpaejkhaiifgdaaGreatDoorGN15
import Derived.Test.YtpaejkhaiifgdaaGreatDoorGN16
import Derived.Test.YtpaejkhaiifgdaaGreatDoorGN17
import Derived.Test.YtpaejkhaiifgdaaGreatDoorGN18
import Derived.Test.YtpaejkhaiifgdaaGreatDoorEN01
import Derived.Test.YtpaejkhaiifgdaaGreatDoorEN02
import Derived.Test.YtpaejkhaiifgdaaGreatDoorEN03
import Derived.Test.YtpaejkhaiifgdaaGreatDoorEN05
import Derived.Test.YtpaejkhaiifgdaaGreatDoorEN06
import Derived.Test.YtpaejkhaiifgdaaGreatDoorProg
import Derived.WalkKit
import Derived.WalkSpells
import Derived.WalkLawsBesides
import Derived.Lib.Hide
import Derived.Deep.QuietTactic
import Derived.BigQuiet
import Derived.Laws.Rows
import Derived.OwnWalk
import Derived.Lib.BufferWrite
import Derived.Lib.UnsafeStr
import Derived.Laws.IdiomStrings
import Derived.Laws.BytesArg
import Derived.Laws.BytesString
import Derived.Laws.OwnMore
import Derived.Lib.IndexLaws
import Derived.Lib.ItoaNum
import Derived.Lib.Atoi
import Derived.Lib.Bytealg
import Derived.Maps.AppendAt
import Derived.RangeFuncNested
import Derived.RangeFuncBound
import Derived.RangeFuncCalls
import Derived.RangeFuncLeaves
import Derived.Shelf.Abstract
import Derived.Shelf.RegionOpen
import Derived.OwnWalkIn
import Derived.Lib.SlTrimSet
import Derived.Shelf.Strings.Builder1
import Derived.Shelf.Strings.Builder2
import Derived.Shelf.Strings.OnBuilder
import Derived.Shelf.Strings.Trim
import Derived.Shelf.Small.Utf8
import Derived.Shelf.Small.Strs
import Derived.Shelf.Strings.BuilderF
import Derived.Shelf.Strings.BuilderK
import Derived.Shelf.Strings.Builder2Cap
import Derived.Shelf.Strconv.Atoi
import Derived.Shelf.Strconv.Itoa0
import Derived.Shelf.Strconv.Itoa1
import Derived.Shelf.LaysM
import Derived.Shelf.Strconv.Itoa2
import Derived.Shelf.Strconv.Itoa3
import Derived.Shelf.Strconv.AtoiErrFast
import Derived.Shelf.Strconv.ParseIntEmpty
import Derived.Shelf.Strconv.AtoiFail
import Derived.Shelf.Strconv.Clone
import Derived.Shelf.Strconv.SyntaxError
import Derived.Shelf.LaysC
import Derived.Shelf.Strconv.ToError
import Derived.Shelf.Strconv.AtoiErr
import Derived.Shelf.Strings.Search1
import Derived.Shelf.Strings.Search2
import Derived.Shelf.Strings.Search3
import Derived.Shelf.Strings.Cut
import Derived.Shelf.Strings.Shaped
import Derived.Shelf.Strings.Prefix
import Derived.Shelf.Strings.Runes
import Derived.Shelf.Strings.AsciiSet
import Derived.Shelf.Bits.Mul64
import Derived.Shelf.Strings.Repeat
import Derived.Shelf.Unicode.DecodeSlow
import Derived.Shelf.Strings.BuilderCap
import Derived.Shelf.Slices.Turned
import Derived.Shelf.Strings.SlTrimAscii
import Derived.Lib.AtoiErrMem
import Derived.Handy
import Derived.Laws.ResultCell
import Derived.RegionTactic
import Derived.Lib.Repeat
import Derived.Deep.RegionHeld3
import Derived.Lib.SlicesS
import Derived.TacticsInMore
import Derived.LoopNIn
import Derived.LoopIn
import Derived.Deep.RegionLaw
import Derived.Deep.DeepCutAuto
import Derived.Lib.Join
import Derived.Laws.Concat
import Derived.Maps.OwnSet
import Derived.Maps.Range
import Derived.StillTailTactics
set_option linter.unusedVariables false
namespace Go.Proofs.YtpaejkhaiifgdaaGreatDoor
open Go Go.Proofs Go.RowKit Go.Lib

theorem drewN_stays {w : World} {P : Nat → Prop} {A : Option Addr} {l : List Str} (h : S3.StrsIn w P A l) (q : Nat) : S3.StrsIn (w.drewN q) P A l := h.kept fun b _ => by
  induction q with
  | zero => rfl
  | succ q ih => exact ih
set_option maxHeartbeats 4000000 in
set_option maxRecDepth 100000 in
theorem sameLists_any (A A' : Option Addr) (la lb : List (List Str)) (ca cb : Nat) (P P' : Nat → Prop) (w : World) (ha : RowsIn w P A la) (hb : RowsIn w P' A' lb) (h63 : la.length ≤ 9223372036854775807) :
    Calls Tryz.prog 17 #[.slice A la.length ca, .slice A' lb.length cb] w fun e w' => e = .returned (.bool (decide (la = lb))) ∧ ∃ q, w' = w.drewN q := by
  by_cases hl : la.length = lb.length
  · have hlz : ((la.length : Int) != (lb.length : Int)) = false := by simp [hl]
    obtain ⟨ANS, hANS⟩ : ∃ ANS, decide (la = lb) = ANS := ⟨_, rfl⟩
    rw [hANS]
    have HA := hid ha
    have HB := hid hb
    have HANS := hid hANS
    have HL := hid hl
    clear ha hb hANS hl
    go_enter Tryz.func17, Tryz.ntmps17
    go_wp2
    go_loopw [5] (fun iv wr => ∃ i : Nat, iv = .int .i64 (i : Int) ∧ i ≤ la.length ∧ Hid (la.take i = lb.take i) ∧ Hid (∃ q, wr = w.drewN q)) (fun iv _ => la.length - (RowKit.intOf iv).toNat)
    case atStart => exact ⟨0, rfl, Nat.zero_le _, hid rfl, hid ⟨0, rfl⟩⟩
    case round =>
      obtain ⟨i, rfl, hi, ht, HQ⟩ := hrel
      have hst : ∀ k, wr.heap[k]? = w.heap[k]? := fun k => by obtain ⟨q, hq⟩ := HQ.out; rw [hq]; exact (Rolled.drawn (k + 1) w q).block k (by omega)
      by_cases hlt : i < la.length
      · have hltz : (i : Int) < (la.length : Int) := by omega
        have hltb : i < lb.length := by have := HL.out; omega
        have hltz2 : (i : Int) < (lb.length : Int) := by omega
        have d1 : decide (la.length ≤ i) = false := decide_eq_false (by omega)
        have d2 : decide (lb.length ≤ i) = false := decide_eq_false (by omega)
        obtain ⟨b1, o1, A1, c1, rfl, _, g1, e1, e2, s1⟩ := (HA.out.kept (fun b _ => hst b)).at_ hlt
        obtain ⟨b2, o2, A2, c2, rfl, _, g2, _, _, s2⟩ := (HB.out.kept (fun b _ => hst b)).at_ hltb
        have hiff : Hid (la.take (i + 1) = lb.take (i + 1) ↔ la[i] = lb[i]) := hid (by
          rw [List.take_succ_eq_append_getElem hlt, List.take_succ_eq_append_getElem hltb, ht.out]
          constructor
          · intro e
            have := List.append_cancel_left e
            simpa using this
          · intro e
            rw [e])
        have cS := fun k => S3.sameStrings_any A1 A2 la[i] lb[i] c1 c2 _ _ (wr.drewN k) (drewN_stays s1 k) (drewN_stays s2 k) (by omega)
        obtain ⟨D, hD⟩ : ∃ D, decide (la[i] = lb[i]) = D := ⟨_, rfl⟩
        rw [hD] at cS
        have HD : Hid (la[i] = lb[i] ↔ D = true) := hid (by rw [← hD]; simp)
        obtain ⟨n1, hn1⟩ : ∃ n, la[i].length = n := ⟨_, rfl⟩
        obtain ⟨n2, hn2⟩ : ∃ n, lb[i].length = n := ⟨_, rfl⟩
        rw [hn1] at cS g1
        rw [hn2] at cS g2
        have CS := hid cS
        clear cS hD hn1 hn2 s1 s2 hst e1 e2
        cases D with
        | true =>
          go_wp2
          go_quiet ((go_at_call 46; with_reducible refine Calls.quiet_of (CS.out _)))
          go_wp2
          go_roundw
          case rel => exact ⟨i + 1, by go_num, by omega, hid (hiff.out.2 (by have := HD.out; simpa using this)), hid (by obtain ⟨q, hq⟩ := HQ.out; exact ⟨q + nq, by rw [hq, World.drewN_drewN]⟩)⟩
          case measure => simp [RowKit.intOf]; omega
        | false =>
          have hf : ANS = false := by
            rw [← HANS.out]
            apply decide_eq_false
            intro e
            subst e
            have := HD.out
            simp at this
          subst hf
          go_wp2
          go_quiet ((go_at_call 46; with_reducible refine Calls.quiet_of (CS.out _)))
          go_wp2
          go_ret
          exact ⟨rfl, by obtain ⟨q, hq⟩ := HQ.out; exact ⟨q + nq, by rw [hq, World.drewN_drewN]⟩⟩
      · have hltz : ¬ (i : Int) < (la.length : Int) := by omega
        have hf : ANS = true := by
          rw [← HANS.out]
          apply decide_eq_true
          have h := ht.out
          rwa [List.take_of_length_le (by omega), List.take_of_length_le (by have := HL.out; omega)] at h
        subst hf
        go_wp2
        go_ret
        exact ⟨rfl, HQ.out⟩
  · have hlz : ((la.length : Int) != (lb.length : Int)) = true := by simp; omega
    have hf : decide (la = lb) = false := decide_eq_false (fun e => hl (by rw [e]))
    rw [hf]
    clear ha hb
    go_enter Tryz.func17, Tryz.ntmps17
    go_wp2
    go_ret
    exact ⟨rfl, 0, rfl⟩
end Go.Proofs.YtpaejkhaiifgdaaGreatDoor

set_option linter.unusedVariables false
namespace Go.Proofs.YtpaejkhaiifgdaaGreatDoor
open Go Go.Proofs Go.RowKit Go.Lib

abbrev RowA := List Str × (Option Addr × Nat)
def rowV (p : RowA) : Value := .slice p.2.1 p.1.length p.2.2
/-- Lists of strings that the call has made, in a slice of its own; what the slice leads to lies in other blocks of the call's own. -/
def RowsRow (w : World) (B : Nat) (v : Value) (L : List RowA) : Prop := w.ownsRow B 39 1 v L.length (L.map rowV) ∧
  ∀ p ∈ L, S3.StrsIn w (fun b => B ≤ b ∧ b < w.heap.size ∧ v.ownBlock ≠ some b) p.2.1 p.1 ∧ p.1.length ≤ p.2.2 ∧ p.2.2 ≤ 9223372036854775807
theorem RowsRow.nil (w : World) (B : Nat) : RowsRow w B (.slice none 0 0) [] := ⟨World.ownsRow_nil _ _ _ _, fun p hp => by simp at hp⟩
theorem RowsRow.rowsIn {w : World} {B : Nat} {v : Value} {L : List RowA} (h : RowsRow w B v L) : ∃ A c, v = .slice A L.length c ∧ L.length ≤ c ∧ c ≤ 9223372036854775807 ∧ RowsIn w (fun b => B ≤ b ∧ b < w.heap.size) A (L.map (·.1)) := by
  obtain ⟨h, hL⟩ := h
  have h' := h
  rcases h.2 with ⟨hv, h0⟩ | ⟨g, cap, cur, hv, hB, hg, h1, h2, _⟩
  · have hl : L = [] := List.eq_nil_of_length_eq_zero h0
    subst hl
    exact ⟨none, 0, by rw [hv]; rfl, Nat.le_refl _, by omega, .inl rfl⟩
  · refine ⟨_, cap, hv, h1, by unfold maxLen at h2; omega, .inr ⟨g, 0, rfl, ⟨hB, (Array.getElem?_eq_some_iff.1 hg).1⟩, fun j l hj => ?_⟩⟩
    rw [List.getElem?_map] at hj
    obtain ⟨p, hp, rfl⟩ := Option.map_eq_some_iff.1 hj
    obtain ⟨f1, f2, f3⟩ := hL p (List.mem_of_getElem? hp)
    refine ⟨p.2.1, p.2.2, ?_, f2, f3, f1.mono (fun b hb => ⟨hb.1, hb.2.1⟩)⟩
    have := World.ownsRow.cells h' (g := g) (by rw [hv]; rfl) j (rowV p) (by rw [List.getElem?_map, hp]; rfl)
    rw [Addr.add_lit] at this
    exact this
/-- One row more. -/
theorem RowsRow.snoc {w w1 w2 w3 w4 : World} {B : Nat} {v v' : Value} {L : List RowA} {l : List Str} {A : Option Addr} {c : Nat} (h : RowsRow w B v L) (hBw : B ≤ w1.heap.size) (h1 : Below w.heap.size w w1) (hb : Below w1.heap.size w1 w2) (hr : S3.StrRow w2 w1.heap.size (.slice A l.length c) l)
    (h3 : Below w2.heap.size w2 w3) (hown' : w4.ownsRow B 39 1 v' (L.length + 1) (L.map rowV ++ [.slice A l.length c])) (hg : w3.grownBy w4 v.ownBlock) (hat : v'.ownBlock = v.ownBlock ∨ v'.ownBlock = some w3.heap.size) : RowsRow w4 B v' (L ++ [(l, A, c)]) := by
  have hs1 := h1.size
  have hs2 := hb.size
  have hs3 := h3.size
  have hs4 := hg.size
  have hvl : ∀ g, v.ownBlock = some g → g < w.heap.size := fun g hg => (World.ownsRow.lt h.1 g hg).2
  refine ⟨by rw [List.map_append, List.length_append, List.length_singleton]; exact hown', fun p hp => ?_⟩
  rcases List.mem_append.1 hp with hp | hp
  · obtain ⟨f1, f2, f3⟩ := h.2 p hp
    refine ⟨S3.StrsIn.mono (f1.kept (w' := w4) (fun b hb' => ?_)) (fun b hb' => ⟨hb'.1, by omega, ?_⟩), f2, f3⟩
    · obtain ⟨k1, k2, k3⟩ := hb'
      rw [hg.block b (by omega) (fun e => k3 e.symm), h3.block b (by omega), hb.block b (by omega), h1.block b k2]
    · obtain ⟨k1, k2, k3⟩ := hb'
      intro e
      rcases hat with ha | ha
      · rw [ha] at e; exact k3 e
      · rw [ha] at e
        injection e with e
        omega
  · rw [List.mem_singleton] at hp
    subst hp
    obtain ⟨A5, c5, eA, hl5, hc5, hI5⟩ := hr.strsIn
    obtain ⟨rfl, rfl⟩ : A = A5 ∧ c = c5 := by injection eA with e1 _ e3; exact ⟨e1, e3⟩
    refine ⟨S3.StrsIn.mono (hI5.kept (w' := w4) (fun b hb' => ?_)) (fun b hb' => ⟨by omega, by omega, ?_⟩), hl5, hc5⟩
    · rw [hg.block b (by omega) (fun e => by have := hvl b e.symm; omega), h3.block b (by omega)]
    · intro e
      rcases hat with ha | ha
      · rw [ha] at e
        have := hvl b e
        omega
      · rw [ha] at e
        injection e with e
        omega
theorem infoStrs7 : (Tryz.prog.info? 39).map (fun i => (i.zero, i.size, i.bytes)) = some (some (.slice none 0 0), 1, 24) := by kernel_rfl
theorem one_slice (A : Option Addr) (n c : Nat) : ∀ u ∈ [Value.slice A n c], u.oneCell' = true := by
  intro u hu
  rw [List.mem_singleton] at hu
  subst hu
  rfl
/-- What Write leaves behind. -/
def WriteOut (o : List (List Str) × Int) (w : World) (e : Ending) (w' : World) : Prop := (∃ v L, L.map (·.1) = o.1 ∧ e = .returned (.tuple #[v, .int .i64 o.2]) ∧ RowsRow w' w.heap.size v L) ∧ Below w.heap.size w w'
theorem RowsRow.low {w : World} {B B' : Nat} {v : Value} {L : List RowA} (h : RowsRow w B v L) (hB : B' ≤ B) : RowsRow w B' v L := by
  refine ⟨?_, fun p hp => ?_⟩
  · refine ⟨h.1.1, ?_⟩
    rcases h.1.2 with k | ⟨g, cap, cur, k1, k2, k3⟩
    · exact .inl k
    · exact .inr ⟨g, cap, cur, k1, by omega, k3⟩
  · obtain ⟨f1, f2, f3⟩ := h.2 p hp
    exact ⟨f1.mono (fun b hb => ⟨by omega, hb.2⟩), f2, f3⟩

end Go.Proofs.YtpaejkhaiifgdaaGreatDoor

set_option linter.unusedVariables false
namespace Go.Proofs.YtpaejkhaiifgdaaGreatDoor.S11
open Go Go.Proofs Go.RowKit Go.Lib Go.Proofs.YtpaejkhaiifgdaaGreatDoor

set_option maxHeartbeats 8000000 in
set_option maxRecDepth 100000 in
theorem ufields_any (x : CurrD) (q : CurrA) (w : World) (h : CurrIn w (fun k => k < w.heap.size) x q) (hv : S3.checkM x.2 = 0) (hE : S3.Env w) :
    Calls Tryz.prog 33 #[currV x q] w (S3.RowOut (rowU x) w) := by
  obtain ⟨code, cs⟩ := x
  obtain ⟨A2, c2⟩ := q
  obtain ⟨ht, ht1, ht2⟩ := h
  dsimp only at ht ht1 ht2 hv
  unfold currV rowU S3.RowOut
  dsimp only
  have hx0 := Box2.new w (.string (ba code)) (.slice A2 cs.length c2)
  have hb0 := (Below.refl w.heap.size w).alloc (Nat.le_refl _) (.cells #[.string (ba code), .slice A2 cs.length c2] 41)
  have cJ := hid (fun (w' : World) (hb : Below w.heap.size w w') => S3.cjoin_any A2 cs c2 w' ((ht.below hb).mono (fun k hk => Nat.lt_of_lt_of_le hk hb.size)) ht1 ht2 (hE.below hb))
  have cJ' := cJ.out
  unfold S3.JoinOut at cJ'
  rw [if_pos hv, hv] at cJ'
  obtain ⟨X1, hX1⟩ : ∃ X, ba code = X := ⟨_, rfl⟩
  obtain ⟨X5, hX5⟩ : ∃ X, S3.ba (S3.joinM cs) = X := ⟨_, rfl⟩
  have hrow : Hid (S3.strVals [code, S3.joinM cs] = [.string X1, .string X5]) := hid (by rw [← hX1, ← hX5]; rfl)
  rw [hX1] at hx0 hb0
  rw [hX5] at cJ'
  rw [hX1]
  obtain ⟨T1, hT1⟩ : ∃ F, cs.length = F := ⟨_, rfl⟩
  rw [hT1] at hx0 hb0 cJ' ⊢
  have CJ := hid cJ'
  have HX0 := hid hx0
  have HB0 := hid hb0
  clear ht cJ cJ' hX1 hX5 hT1 hx0 hb0 hE ht1 hv
  go_enter Tryz.func33, Tryz.ntmps33
  go_wp2_with fail
  generalize World.alloc _ _ = wx at HX0 HB0 ⊢
  obtain ⟨x0, x1⟩ := HX0.out.cells
  go_wp2_with fail
  refine (CJ.out _ HB0.out).mono ?_
  rintro e w2 ⟨rfl, hb2⟩
  have HX2 := hid (HX0.out.next hb2)
  have HB2 := hid (HB0.out.trans (hb2.mono HB0.out.size))
  clear hb2 x0 x1
  obtain ⟨x0, x1⟩ := HX2.out.cells
  go_wp2
  go_ret
  refine ⟨⟨_, rfl, ?_⟩, HB2.out.alloc HB2.out.size _⟩
  unfold S3.StrRow
  rw [hrow.out]
  exact World.ownsRow_lit w2 #[.string X1, .string X5] 2 HB2.out.size (by decide) rfl

set_option maxHeartbeats 16000000 in
set_option maxRecDepth 100000 in
theorem ewrite_any (A : Option Addr) (l : List CurrD) (c : Nat) (w : World) (h : CurrsIn w (fun k => k < w.heap.size) A l) (h16 : l.length ≤ 16) (hok : ∀ r ∈ l, currM r = 0) (hE : S3.Env w) :
    Calls Tryz.prog 32 #[.slice A l.length c, .int .i64 0, .func (.func 33) #[] #[]] w (WriteOut (l.map rowU, 0) w) := by
  have eg : ∀ args w, (callFunc 33 args).run Tryz.prog w = .ok (.enter 33 args) w := enters_of Tryz.func33 (by kernel_rfl) rfl
  obtain ⟨iS, hiS, hzS, hsS, hbS⟩ := info_parts infoStrs7
  unfold WriteOut
  have HH := hid (fun (w' : World) (hb : Below w.heap.size w w') => h.below hb)
  have HE := hid (fun (w' : World) (hb : Below w.heap.size w w') => hE.below hb)
  have HOK := hid hok
  clear h hE hok
  go_enter Tryz.func32, Tryz.ntmps32
  go_wp2
  go_loopw [8, 16] (fun v iv wr => ∃ (i : Nat) (L : List RowA), iv = .int .i64 (i : Int) ∧ i ≤ l.length ∧ Hid (L.map (·.1) = (l.take i).map rowU) ∧ Hid (RowsRow wr w.heap.size v L) ∧ Hid (Below w.heap.size w wr)) (fun _ iv _ => l.length - (RowKit.intOf iv).toNat)
  case atStart => exact ⟨0, [], rfl, Nat.zero_le _, hid rfl, hid (RowsRow.nil _ _), hid (Below.refl _ _)⟩
  case round =>
    obtain ⟨i, L, rfl, hi, hL, hrow, hB⟩ := hrel
    obtain ⟨Ar, cr, hvr, _⟩ := hrow.out.rowsIn
    subst hvr
    have hLl : L.length = i := by
      have := congrArg List.length hL.out
      rw [List.length_map, List.length_map, List.length_take] at this
      omega
    have HLL := hid hLl
    clear hLl
    by_cases hlt : i < l.length
    · have hltz : (i : Int) < (l.length : Int) := by omega
      obtain ⟨fb, fo, q, rfl, hfb, hri, y0, y1⟩ := (HH.out _ hB.out).at_ hlt
      have hroom := HOK.out _ (List.getElem_mem hlt)
      have hst : (l.take (i + 1)).map rowU = L.map (·.1) ++ [rowU l[i]] := by rw [hL.out, List.take_succ_eq_append_getElem hlt, List.map_append]; rfl
      have cW : ∀ W, Below wr.heap.size wr W → Calls Tryz.prog 33 #[currV l[i] q] W (S3.RowOut (rowU l[i]) W) :=
        fun W hb => ufields_any l[i] q W ((hri.below (hb.mono hB.out.size)).mono (fun k hk => Nat.lt_of_lt_of_le hk (Nat.le_trans hB.out.size hb.size))) (currM_all hroom).2.2.2 (HE.out W (hB.out.trans (hb.mono hB.out.size)))
      obtain ⟨RW, hRW⟩ : ∃ r, rowU l[i] = r := ⟨_, rfl⟩
      rw [hRW] at cW hst
      obtain ⟨⟨code, ts⟩, hr⟩ : ∃ r, l[i] = r := ⟨_, rfl⟩
      rw [hr] at y0 y1 cW
      dsimp only at y0 y1
      unfold currV S3.RowOut at cW
      dsimp only at cW
      obtain ⟨X1, hX1⟩ : ∃ X, ba code = X := ⟨_, rfl⟩
      obtain ⟨T1, hT1⟩ : ∃ F, ts.length = F := ⟨_, rfl⟩
      rw [hX1] at y0 cW
      rw [hT1] at y1 cW
      have hb1 := (Below.refl wr.heap.size wr).alloc (Nat.le_refl _) (.cells #[.string X1, .slice q.1 T1 q.2] 41)
      have hx1 := Box2.new wr (.string X1) (.slice q.1 T1 q.2)
      have CW := hid (cW _ hb1)
      have HB1 := hid hb1
      have HX1 := hid hx1
      have HST := hid hst
      clear hr hRW hX1 hT1 hb1 hx1 cW hst hri hroom hfb
      go_wp2_with fail
      generalize wr.alloc (.cells #[.string X1, .slice q.1 T1 q.2] 41) = w1 at HB1 HX1 CW ⊢
      obtain ⟨z0, z1⟩ := HX1.out.cells
      go_wp2_with fail
      refine CW.out.mono ?_
      rintro e w2 ⟨⟨vi, rfl, hrowi⟩, hb2⟩
      obtain ⟨Ai, ci, rfl, hl5, hc5, _⟩ := hrowi.strsIn
      have HB2 := hid hb2
      have HRowi := hid hrowi
      have hrow2 : w2.ownsRow w.heap.size 39 1 (.slice Ar L.length cr) L.length (L.map rowV) := row_under (row_under hrow.out.1 HB1.out) HB2.out
      have HRow2 := hid hrow2
      have HC3 : Hid (L.length + 1 ≤ maxLen) := by unfold maxLen; exact hid (by have := HLL.out; omega)
      have HC4 : Hid ((L.length + 1) * 24 ≤ 140737488355328) := hid (by have := HLL.out; omega)
      have HSZ : Hid (w.heap.size ≤ w2.heap.size) := hid (by have := hB.out.size; have := HB1.out.size; have := HB2.out.size; omega)
      have HC5 : Hid (∀ o : Obj, w.heap.size ≤ (w2.alloc o).heap.size) := hid (fun o => by have := HSZ.out; simp; omega)
      clear hb2 hrowi hrow2 y0 y1 hl5 hc5 z0 z1
      go_wp2_with (at_builtin; refine wpList_append_own_at _ rfl _ _ 29 rfl w.heap.size 39 iS (.slice none 0 0) 1 24 Tryz.underlying29 hiS hzS hsS hbS rfl (by decide) _ L.length (L.map rowV) rfl (World.ownsRow.alloc HRow2.out _) ⟨w2.heap.size, 0, none⟩ 1 1 [.slice Ai RW.length ci] rfl rfl (one_new _ _ _) (one_slice _ _ _) HC3.out HC4.out (HC5.out _) ?_)
      intro v' w4 hown' hgrow _ hat
      have hsn := RowsRow.snoc hrow.out (by have := hB.out.size; have := HB1.out.size; omega) HB1.out HB2.out HRowi.out ((Below.refl w2.heap.size w2).alloc (Nat.le_refl _) _) hown' hgrow (hat.imp id (fun h => h.trans (by simp)))
      have hg' := grownBy_of_alloc hgrow
      have hb24 : Below w.heap.size w2 w4 := (Below.refl _ w2).grown hg' HSZ.out (fun k hk => (World.ownsRow.lt HRow2.out k hk).1)
      have HB4 := hid (((hB.out.trans (HB1.out.mono hB.out.size)).trans (HB2.out.mono (by have := hB.out.size; have := HB1.out.size; omega))).trans hb24)
      have HSN := hid hsn
      have HL2 : Hid ((L ++ [(RW, Ai, ci)]).map (·.1) = (l.take (i + 1)).map rowU) := hid (by rw [HST.out, List.map_append]; rfl)
      clear hb24 hg' hgrow hown' hsn hat
      go_wp2_with fail
      go_roundw
      case rel => exact ⟨i + 1, L ++ [(RW, Ai, ci)], by go_num, by omega, HL2, HSN, HB4⟩
      case measure => simp [RowKit.intOf]; omega
    · have hltz : ¬ (i : Int) < (l.length : Int) := by omega
      have hL2 : Hid (L.map (·.1) = l.map rowU) := hid (by rw [hL.out, List.take_of_length_le (by omega)])
      go_wp2
      go_ret2
      exact ⟨⟨_, L, hL2.out, rfl, hrow.out⟩, hB.out⟩
set_option maxHeartbeats 4000000 in
theorem ewriteE_any (A : Option Addr) (n c : Nat) (R : Int) (hR : R ≠ 0) (f : Value) (w : World) :
    Calls Tryz.prog 32 #[.slice A n c, .int .i64 R, f] w (WriteOut ([], R) w) := by
  unfold WriteOut
  have hR1 : (R != 0) = true := by simpa using hR
  have hR2 : (R == 0) = false := by simpa using hR
  go_enter Tryz.func32, Tryz.ntmps32
  go_wp2
  go_ret2
  exact ⟨⟨_, [], rfl, rfl, RowsRow.nil _ _⟩, Below.refl _ _⟩
set_option maxHeartbeats 8000000 in
theorem uwrite_any (A : Option Addr) (l : List CurrD) (c : Nat) (w : World) (h : CurrsIn w (fun k => k < w.heap.size) A l) (hE : S3.Env w) :
    Calls Tryz.prog 8 #[.slice A l.length c] w (WriteOut (writeU l) w) := by
  have cV := uvalid_any A l c w h hE
  have cW : ∀ W, Below w.heap.size w W → Calls Tryz.prog 32 #[.slice A l.length c, .int .i64 (validU l), .func (.func 33) #[] #[]] W (WriteOut (writeU l) W) := fun W hb => by
    unfold writeU
    by_cases h0 : validU l = 0
    · rw [if_neg (by simpa using h0), h0]
      exact ewrite_any A l c W ((h.below hb).mono (fun k hk => Nat.lt_of_lt_of_le hk hb.size)) (validU_ok h0).1 (validU_ok h0).2 (hE.below hb)
    · rw [if_pos h0]
      exact ewriteE_any A l.length c (validU l) h0 _ W
  unfold Says at cV
  unfold WriteOut at cW ⊢
  obtain ⟨R, hR⟩ : ∃ R, validU l = R := ⟨_, rfl⟩
  obtain ⟨⟨o1, o2⟩, hO⟩ : ∃ R, writeU l = R := ⟨_, rfl⟩
  rw [hR] at cV cW
  rw [hO] at cW ⊢
  obtain ⟨N, hN⟩ : ∃ N, l.length = N := ⟨_, rfl⟩
  rw [hN] at cV cW ⊢
  have CV := hid cV
  have CW := hid cW
  clear cV cW hR hO hN h hE
  go_enter Tryz.func8, Tryz.ntmps8
  go_wp2_with fail
  refine CV.out.mono ?_
  rintro e w1 ⟨rfl, hb1⟩
  have HB1 := hid hb1
  clear hb1
  go_wp2_with fail
  refine (CW.out _ HB1.out).mono ?_
  rintro e w2 ⟨⟨v, L, hL, rfl, hrow⟩, hb2⟩
  have HR : Hid (∃ v' L', L'.map (·.1) = o1 ∧ Ending.returned (.tuple #[v, .int .i64 o2]) = .returned (.tuple #[v', .int .i64 o2]) ∧ RowsRow w2 w.heap.size v' L') := hid ⟨v, L, hL, rfl, hrow.low HB1.out.size⟩
  have HB2 := hid (HB1.out.trans (hb2.mono HB1.out.size))
  clear hL hrow hb2
  go_wp2
  go_ret2
  exact ⟨HR.out, HB2.out⟩
end Go.Proofs.YtpaejkhaiifgdaaGreatDoor.S11

set_option linter.unusedVariables false
namespace Go.Proofs.YtpaejkhaiifgdaaGreatDoor.S11
open Go Go.Proofs Go.RowKit Go.Lib Go.Proofs.YtpaejkhaiifgdaaGreatDoor

set_option maxHeartbeats 2000000 in
set_option maxRecDepth 100000 in
theorem rhas_any (A : Option Addr) (l : List Str) (c : Nat) (x : ByteArray) (P : Nat → Prop) (w : World) (h : S3.StrsIn w P A l) (h63 : l.length ≤ 9223372036854775807) :
    Calls Tryz.prog 41 #[.slice A l.length c, .string x] w fun e w' => e = .returned (.bool (decide (lst x ∈ l))) ∧ w = w' := by
  obtain ⟨ANS, hA⟩ : ∃ ANS, decide (lst x ∈ l) = ANS := ⟨_, rfl⟩
  rw [hA]
  have HA : Hid (decide (lst x ∈ l.drop 0) = ANS) := hid hA
  have HH := hid h
  clear h hA
  go_enter Tryz.func41, Tryz.ntmps41
  go_wp2
  go_loop [5] (fun iv => ∃ i : Nat, iv = .int .i64 (i : Int) ∧ i ≤ l.length ∧ Hid (decide (lst x ∈ l.drop i) = ANS)) (fun iv => l.length - (RowKit.intOf iv).toNat)
  case atStart => exact ⟨0, rfl, Nat.zero_le _, HA⟩
  case round =>
    obtain ⟨i, rfl, hi, hE⟩ := hrel
    by_cases hlt : i < l.length
    · have hltz : (i : Int) < (l.length : Int) := by omega
      have dk : decide (l.length ≤ i) = false := decide_eq_false (by omega)
      obtain ⟨b1, o1, rfl, _, hc1⟩ := HH.out.at_ hlt
      have hst := hE.out
      rw [List.drop_eq_getElem_cons hlt] at hst
      obtain ⟨y, hy⟩ : ∃ y, l[i] = y := ⟨_, rfl⟩
      rw [hy] at hc1 hst
      obtain ⟨Y, hY⟩ : ∃ Y : ByteArray, (⟨y.toArray⟩ : ByteArray) = Y := ⟨_, rfl⟩
      have hYl : Y.toList = y := by rw [Lib.toList_data, ← hY]
      have hXl : x.toList = lst x := Lib.toList_data x
      have e1 : S3.strV y = .string Y := by rw [← hY]; rfl
      rw [e1] at hc1
      by_cases hxy : y = lst x
      · have hbe : (Y.toList == x.toList) = true := by rw [hXl, hYl, hxy]; simp
        have HST : Hid (ANS = true) := hid (by rw [← hst, hxy]; simp)
        clear hy hY hYl hXl e1 hst hE hxy
        go_wp2
        go_ret
        exact ⟨by rw [HST.out]; rfl, rfl⟩
      · have hbe : (Y.toList == x.toList) = false := by rw [hXl, hYl]; simpa using hxy
        have HST : Hid (decide (lst x ∈ l.drop (i + 1)) = ANS) := hid (by rw [← hst]; simp [Ne.symm hxy])
        clear hy hY hYl hXl e1 hst hE hxy
        go_wp2
        go_round
        case rel => exact ⟨i + 1, by go_num, by omega, HST⟩
        case measure => simp [RowKit.intOf]; omega
    · have hltz : ¬ (i : Int) < (l.length : Int) := by omega
      have HST : Hid (ANS = false) := hid (by rw [← hE.out, List.drop_of_length_le (by omega)]; simp)
      clear hE
      go_wp2
      go_ret
      exact ⟨by rw [HST.out]; rfl, rfl⟩
end Go.Proofs.YtpaejkhaiifgdaaGreatDoor.S11

set_option linter.unusedVariables false
namespace Go.Proofs.YtpaejkhaiifgdaaGreatDoor.S11
open Go Go.Proofs Go.RowKit Go.Lib Go.Proofs.YtpaejkhaiifgdaaGreatDoor

set_option maxHeartbeats 16000000 in
set_option maxRecDepth 100000 in
theorem urvalid_any (A : Option Addr) (l : List CurrD) (c : Nat) (w : World) (h : CurrsIn w (fun k => k < w.heap.size) A l) :
    Calls Tryz.prog 16 #[.slice A l.length c] w (Says (.int .i64 (validU l)) w) := by
  unfold Says
  obtain ⟨R, hR⟩ : ∃ R, validU l = R := ⟨_, rfl⟩
  rw [hR]
  unfold validU at hR
  have HH := hid h
  clear h
  by_cases h16 : 16 < l.length
  · rw [if_pos h16] at hR
    subst hR
    have hz : (16 : Int) < (l.length : Int) := by omega
    go_enter Tryz.func16, Tryz.ntmps16
    go_wp2
    go_ret
    exact ⟨rfl, Below.refl _ _⟩
  · rw [if_neg h16] at hR
    have hz : ¬ (16 : Int) < (l.length : Int) := by omega
    have HR : Hid (goU (codesU (l.take 0)) (l.drop 0) = R) := hid hR
    clear hR
    go_enter Tryz.func16, Tryz.ntmps16
    go_wp2
    go_loopw [3] (fun iv wr => ∃ i : Nat, iv = .int .i64 (i : Int) ∧ i ≤ l.length ∧ Hid (goU (codesU (l.take i)) (l.drop i) = R) ∧ Hid (Below w.heap.size w wr)) (fun iv _ => l.length - (RowKit.intOf iv).toNat)
    case atStart => exact ⟨0, rfl, Nat.zero_le _, HR, hid (Below.refl _ _)⟩
    case round =>
      obtain ⟨i, rfl, hi, hE, hK⟩ := hrel
      by_cases hlt : i < l.length
      · have hltz : (i : Int) < (l.length : Int) := by omega
        have dk : decide (l.length ≤ i) = false := decide_eq_false (by omega)
        have hst := goU_step l i hlt
        rw [hE.out] at hst
        obtain ⟨fb, fo, ⟨A2, c2⟩, rfl, hfb, hri, y0, y1⟩ := (HH.out.below hK.out).at_ hlt
        have hci : (codesU l)[i]'(by simpa [codesU] using hlt) = l[i].1 := by simp [codesU]
        have hix := idxG_lt (codesU l) i (by simpa [codesU] using hlt)
        rw [hci, show (codesU l).take i = codesU (l.take i) by simp [codesU, List.map_take]] at hix
        obtain ⟨⟨code, cs⟩, hr⟩ : ∃ r, l[i] = r := ⟨_, rfl⟩
        rw [hr] at hst y0 y1 hri hix
        obtain ⟨ht, ht1, ht2⟩ := hri
        dsimp only at hst y0 y1 ht ht1 ht2 hix
        have cV1 := fun w => S3.refValid_any (ba code) w
        rw [show (ba code).data.toList = code from rfl] at cV1
        have cI : Hid (∀ W, Below w.heap.size w W → Calls Tryz.prog 45 #[.slice (some ⟨fb, fo, none⟩) l.length c, .string (ba code)] W fun e w' => e = .returned (.int .i64 (idxG (codesU l) code 0)) ∧ W = w') :=
          hid (fun W hb => rindex_any (some ⟨fb, fo, none⟩) l c (ba code) W ((HH.out.below hb).mono (fun k hk => Nat.lt_of_lt_of_le hk hb.size)) (by omega))
        have hb1 := (Below.refl wr.heap.size wr).alloc (Nat.le_refl _) (.cells #[.string (ba code), .slice A2 cs.length c2] 41)
        have hx1 := Box2.new wr (.string (ba code)) (.slice A2 cs.length c2)
        have hT := ht.kept (w' := wr.alloc (.cells #[.string (ba code), .slice A2 cs.length c2] 41)) (fun k hk => hb1.block k (Nat.lt_of_lt_of_le hk hK.out.size))
        obtain ⟨V1, hV1⟩ : ∃ V, S3.validC code = V := ⟨_, rfl⟩
        obtain ⟨E, hE2⟩ : ∃ E, currM (code, cs) = E := ⟨_, rfl⟩
        rw [hE2] at hst
        unfold currM at hE2
        dsimp only at hE2
        rw [hV1] at cV1 hE2
        obtain ⟨X1, hX1⟩ : ∃ X, ba code = X := ⟨_, rfl⟩
        rw [hX1] at y0 cV1 cI hb1 hx1 hT
        obtain ⟨T1, hT1⟩ : ∃ F, cs.length = F := ⟨_, rfl⟩
        rw [hT1] at y1 hE2 hb1 hx1 ht1 hT
        have HT1 := hid hT1
        have HIX := hid hix
        have HST := hid hst
        have HT := hid hT
        have HX1 := hid hx1
        have HB1 := hid (hK.out.trans (hb1.mono hK.out.size))
        clear hr hV1 hX1 hst ht hT hix hci hE hb1 hx1 hT1
        cases V1 with
        | false =>
          have HRR : Hid (R = 10) := hid (by have h := HST.out; rw [← hE2] at h; simpa using h)
          clear hE2
          go_wp2_with fail
          generalize wr.alloc (.cells #[.string X1, .slice A2 T1 c2] 41) = w1 at HB1 HX1 HT ⊢
          obtain ⟨x0, x1⟩ := HX1.out.cells
          go_wp2_with fail
          refine (cV1 _).mono ?_
          rintro e w' ⟨rfl, rfl⟩
          go_wp2
          go_ret
          rw [HRR.out]
          exact ⟨rfl, HB1.out⟩
        | true =>
        rw [if_neg (by simp)] at hE2
        by_cases z1 : T1 = 0
        · rw [if_pos z1] at hE2
          subst z1
          have HRR : Hid (R = 16) := hid (by have h := HST.out; rw [← hE2] at h; simpa using h)
          clear hE2
          go_wp2_with fail
          generalize wr.alloc (.cells #[.string X1, .slice A2 0 c2] 41) = w1 at HB1 HX1 HT ⊢
          obtain ⟨x0, x1⟩ := HX1.out.cells
          go_wp2_with fail
          refine (cV1 _).mono ?_
          rintro e w' ⟨rfl, rfl⟩
          go_wp2
          go_ret
          rw [HRR.out]
          exact ⟨rfl, HB1.out⟩
        rw [if_neg z1] at hE2
        have z1i : ¬ (T1 : Int) = 0 := by omega
        have z1b : ((T1 : Int) == 0) = false := beq_eq_false_iff_ne.2 z1i
        by_cases z2 : 8 < T1
        · have z2' : (8 : Int) < (T1 : Int) := by omega
          have z2d : decide ((8 : Int) < (T1 : Int)) = true := decide_eq_true z2'
          rw [if_pos z2] at hE2
          have HRR : Hid (R = 2) := hid (by have h := HST.out; rw [← hE2] at h; simpa using h)
          clear hE2
          go_wp2_with fail
          generalize wr.alloc (.cells #[.string X1, .slice A2 T1 c2] 41) = w1 at HB1 HX1 HT ⊢
          obtain ⟨x0, x1⟩ := HX1.out.cells
          go_wp2_with fail
          refine (cV1 _).mono ?_
          rintro e w' ⟨rfl, rfl⟩
          go_wp2
          go_ret
          rw [HRR.out]
          exact ⟨rfl, HB1.out⟩
        have z2' : ¬ (8 : Int) < (T1 : Int) := by omega
        have z2d : decide ((8 : Int) < (T1 : Int)) = false := decide_eq_false z2'
        rw [if_neg z2] at hE2
        have hck : S3.checkGo (cs.take 0) (cs.drop 0) = E := by
          rw [← hE2]
          unfold S3.checkM
          rw [if_neg (by rw [HT1.out]; omega)]
          rfl
        have HCK := hid hck
        clear hE2 hck z2
        go_wp2_with fail
        generalize wr.alloc (.cells #[.string X1, .slice A2 T1 c2] 41) = w1 at HB1 HX1 HT ⊢
        obtain ⟨x0, x1⟩ := HX1.out.cells
        generalize hBX : wr.heap.size = BX at HX1 x0 x1 ⊢
        go_wp2_with fail
        refine (cV1 _).mono ?_
        rintro e w' ⟨rfl, rfl⟩
        go_wp2
        clear x0 x1 hBX
        have HX2 := HX1
        have HT2 := HT
        have HB2 := HB1
        go_loopw [5] (fun kv wq => ∃ k : Nat, kv = .int .i64 (k : Int) ∧ k ≤ T1 ∧ Hid (S3.checkGo (cs.take k) (cs.drop k) = E) ∧ Hid (Below w.heap.size w wq) ∧ Hid (Box2 wq BX (.string X1) (.slice A2 T1 c2)) ∧ Hid (S3.StrsIn wq (fun b => b < w.heap.size) A2 cs)) (fun kv _ => T1 - (RowKit.intOf kv).toNat)
        case atStart => exact ⟨0, rfl, Nat.zero_le _, HCK, HB2, HX2, HT2⟩
        case round =>
          clear HX1 HT HB1 HX2 HT2 HB2 HCK
          obtain ⟨k, rfl, hk, hC, HB1, HX1, HT⟩ := hrel
          obtain ⟨x0, x1⟩ := HX1.out.cells
          by_cases hkt : k < T1
          · have hktz : (k : Int) < (T1 : Int) := by omega
            have dk2 : decide (T1 ≤ k) = false := decide_eq_false (by omega)
            have hkl : k < cs.length := by rw [HT1.out]; exact hkt
            have hst := S3.checkGo_step cs k hkl
            rw [hC.out] at hst
            obtain ⟨b2, o2, rfl, _, hc2⟩ := HT.out.at_ hkl
            obtain ⟨y, hy⟩ : ∃ y, cs[k] = y := ⟨_, rfl⟩
            rw [hy] at hc2 hst
            have cV2 := fun w => S3.refValid_any (ba y) w
            rw [show (ba y).data.toList = y from rfl] at cV2
            have hin2 : ∀ q, S3.StrsIn (wr.drewN q) (fun b => b < w.heap.size) (some ⟨b2, o2, none⟩) (cs.take k) := fun q => by
              rcases drewN_stays HT.out q with h0 | ⟨b, off, hA, hP, hc⟩
              · exact .inl (by rw [h0, List.take_nil])
              · refine .inr ⟨b, off, hA, hP, fun j s hj => hc j s ?_⟩
                rw [List.getElem?_take] at hj
                split at hj
                · exact hj
                · simp at hj
            have cH := fun q => rhas_any (some ⟨b2, o2, none⟩) (cs.take k) c2 (ba y) _ (wr.drewN q) (hin2 q) (by rw [List.length_take]; omega)
            rw [lst_ba, List.length_take, Nat.min_eq_left (Nat.le_of_lt hkl)] at cH
            have hc3 : wr.cell? ⟨b2, o2 + k, none⟩ = some (.string (ba y)) := hc2
            obtain ⟨V2, hV2⟩ : ∃ V, S3.validC y = V := ⟨_, rfl⟩
            obtain ⟨U, hU⟩ : ∃ U, decide (y ∈ cs.take k) = U := ⟨_, rfl⟩
            rw [hV2] at cV2 hst
            rw [hU] at cH
            obtain ⟨Y, hY⟩ : ∃ Y, ba y = Y := ⟨_, rfl⟩
            rw [hY] at cV2 cH hc3
            have CH := hid cH
            have HST2 := hid hst
            have HU := hid hU
            clear hy hc2 hst hV2 hU hY cH hin2 hC
            cases V2 with
            | false =>
              have HRR : Hid (R = 10) := hid (by
                have h := HST2.out
                rw [if_pos rfl] at h
                have h2 := HST.out
                rw [h, if_pos (by decide)] at h2
                exact h2)
              clear HST HST2
              go_wp2_with fail
              refine (cV2 _).mono ?_
              rintro e w' ⟨rfl, rfl⟩
              go_wp2
              go_ret
              rw [HRR.out]
              exact ⟨rfl, HB1.out⟩
            | true =>
              go_wp2_with fail
              refine (cV2 _).mono ?_
              rintro e w' ⟨rfl, rfl⟩
              have hkc : k ≤ c2 := by omega
              cases U with
              | true =>
                have HRR : Hid (R = 11) := hid (by
                  have h := HST2.out
                  rw [if_neg (by simp), if_pos (by simpa using HU.out)] at h
                  have h2 := HST.out
                  rw [h, if_pos (by decide)] at h2
                  exact h2)
                clear HST HST2
                go_wp2
                go_quiet ((go_at_call 41; with_reducible refine Calls.quiet_of_same ((CH.out _).mono fun _ _ h => ⟨h.1, h.2.symm⟩)))
                go_wp2
                go_ret
                rw [HRR.out]
                exact ⟨rfl, S3.below_drewN HB1.out _⟩
              | false =>
                have HST3 : Hid (S3.checkGo (cs.take (k + 1)) (cs.drop (k + 1)) = E) := hid (by
                  have h := HST2.out
                  rw [if_neg (by simp), if_neg (by simpa using HU.out)] at h
                  exact h.symm)
                clear HST2
                go_wp2
                go_quiet ((go_at_call 41; with_reducible refine Calls.quiet_of_same ((CH.out _).mono fun _ _ h => ⟨h.1, h.2.symm⟩)))
                go_wp2
                go_roundw
                case rel => exact ⟨k + 1, by go_num, by omega, HST3, hid (S3.below_drewN HB1.out _), hid (HX1.out.kept (S3.drewN_heap _ _ _)), hid (drewN_stays HT.out _)⟩
                case measure => simp [RowKit.intOf]; omega
          · have hktz : ¬ (k : Int) < (T1 : Int) := by omega
            have HE0 : Hid (E = 0) := hid (by rw [← hC.out, List.drop_of_length_le (by rw [HT1.out]; omega)]; rfl)
            have cI2 := cI.out wr HB1.out
            obtain ⟨IX, hIX⟩ : ∃ I, idxG (codesU l) code 0 = I := ⟨_, rfl⟩
            rw [hIX] at cI2
            have HIX2 : Hid (IX < (i : Int) ↔ code ∈ codesU (l.take i)) := hid (by rw [← hIX]; exact HIX.out)
            clear hIX HIX
            go_wp2_with fail
            refine cI2.mono ?_
            rintro e w' ⟨rfl, rfl⟩
            by_cases hm : code ∈ codesU (l.take i)
            · have hIi : IX < (i : Int) := HIX2.out.2 hm
              have HRR : Hid (R = 11) := hid (by
                have h := HST.out
                rw [HE0.out, if_neg (by simp), if_pos hm] at h
                exact h)
              clear HST HE0 hC hm
              go_wp2
              go_ret
              rw [HRR.out]
              exact ⟨rfl, HB1.out⟩
            · have hIi : ¬ IX < (i : Int) := fun h => hm (HIX2.out.1 h)
              have HNX : Hid (goU (codesU (l.take (i + 1))) (l.drop (i + 1)) = R) := hid (by
                have h := HST.out
                rw [HE0.out, if_neg (by simp), if_neg hm] at h
                exact h.symm)
              clear HST HE0 hC hm
              go_wp2
              go_roundw
              case rel => exact ⟨i + 1, by go_num, by omega, HNX, HB1⟩
              case measure => simp [RowKit.intOf]; omega
      · have hltz : ¬ (i : Int) < (l.length : Int) := by omega
        have hn : Hid (R = 0) := hid (by rw [← hE.out, List.drop_of_length_le (by omega)]; rfl)
        go_wp2
        go_ret
        rw [hn.out]
        exact ⟨rfl, hK.out⟩
end Go.Proofs.YtpaejkhaiifgdaaGreatDoor.S11

