/-
  Whether two lists of strings are equal: the reference's SameStrings. Conditions: both lie in memory. Lists of lists of strings: Plain of the specification of .. Conditions: as stated.
-/
import Derived.Test.YtlgmanbilaminaaGreatDoorXN01
import Derived.Test.YtlgmanbilaminaaGreatDoorXN02
import Derived.Test.YtlgmanbilaminaaGreatDoorXN04
import Derived.Lib.Bytealg
import Derived.Test.YtlgmanbilaminaaGreatDoorProg
import Derived.WalkKit
import Derived.WalkSpells
import Derived.WalkLawsBesides
import Derived.Lib.Hide
import Derived.Deep.QuietTactic
import Derived.BigQuiet
import Derived.Laws.Rows
import Derived.OwnWalk
import Derived.Lib.BufferWrite
import Derived.Lib.UnsafeStr
import Derived.Laws.IdiomStrings
import Derived.Laws.BytesArg
import Derived.Laws.BytesString
import Derived.Laws.OwnMore
import Derived.Lib.IndexLaws
import Derived.Lib.ItoaNum
import Derived.Lib.Atoi
import Derived.Maps.AppendAt
set_option linter.unusedVariables false
namespace Go.Proofs.YtlgmanbilaminaaGreatDoor.S3
open Go Go.Proofs Go.RowKit Go.Lib
theorem drewN_heap (w : World) : ∀ (q b : Nat), (w.drewN q).heap[b]? = w.heap[b]?
  | 0, _ => rfl
  | q + 1, b => drewN_heap w q b
theorem take_eq_succ (la lb : List Str) (i : Nat) (hi : i < la.length) (hl : la.length = lb.length) (h : la.take i = lb.take i) : (la.take (i + 1) = lb.take (i + 1)) ↔ la[i] = lb[i]'(by omega) := by
  rw [List.take_add_one, List.take_add_one, List.getElem?_eq_getElem hi, List.getElem?_eq_getElem (show i < lb.length by omega), h]
  constructor
  · intro e
    simpa using List.append_cancel_left e
  · intro e
    rw [e]
set_option maxHeartbeats 2000000 in
set_option maxRecDepth 100000 in
theorem sameStrings_any (A A' : Option Addr) (la lb : List Str) (ca cb : Nat) (P P' : Nat → Prop) (w : World) (ha : StrsIn w P A la) (hb : StrsIn w P' A' lb) (h63 : la.length ≤ 9223372036854775807) :
    Calls Tryz.prog 17 #[.slice A la.length ca, .slice A' lb.length cb] w fun e w' => e = .returned (.bool (decide (la = lb))) ∧ ∃ q, w' = w.drewN q := by
  by_cases hl : la.length = lb.length
  · have hlz : ((la.length : Int) != (lb.length : Int)) = false := by simp [hl]
    obtain ⟨ANS, hANS⟩ : ∃ ANS, decide (la = lb) = ANS := ⟨_, rfl⟩
    rw [hANS]
    have HA := hid ha
    have HB := hid hb
    have HL := hid hl
    have HANS := hid hANS
    clear ha hb hl hANS
    go_enter Tryz.func17, Tryz.ntmps17
    go_wp2
    go_loopw [5] (fun iv wr => ∃ i : Nat, iv = .int .i64 (i : Int) ∧ i ≤ la.length ∧ Hid (la.take i = lb.take i) ∧ ∃ q, wr = w.drewN q) (fun iv _ => la.length - (RowKit.intOf iv).toNat)
    case atStart => exact ⟨0, rfl, Nat.zero_le _, hid rfl, 0, rfl⟩
    case round =>
      obtain ⟨i, rfl, hi, ht, q, rfl⟩ := hrel
      by_cases hlt : i < la.length
      · have hltz : (i : Int) < (la.length : Int) := by omega
        have hlt' : i < lb.length := by rw [← HL.out]; exact hlt
        have hltz' : (i : Int) < (lb.length : Int) := by omega
        obtain ⟨b1, o1, rfl, _, hc1⟩ := HA.out.at_ hlt
        obtain ⟨b2, o2, rfl, _, hc2⟩ := HB.out.at_ hlt'
        have hiff := take_eq_succ la lb i hlt HL.out ht.out
        obtain ⟨x, hx⟩ : ∃ x, la[i] = x := ⟨_, rfl⟩
        obtain ⟨y, hy⟩ : ∃ y, lb[i] = y := ⟨_, rfl⟩
        rw [hx] at hc1 hiff
        rw [hy] at hc2 hiff
        obtain ⟨X, hX⟩ : ∃ X : ByteArray, (⟨x.toArray⟩ : ByteArray) = X := ⟨_, rfl⟩
        obtain ⟨Y, hY⟩ : ∃ Y : ByteArray, (⟨y.toArray⟩ : ByteArray) = Y := ⟨_, rfl⟩
        have hXl : X.toList = x := by rw [Lib.toList_data, ← hX]
        have hYl : Y.toList = y := by rw [Lib.toList_data, ← hY]
        have e1 : strV x = .string X := by rw [← hX]; rfl
        have e2 : strV y = .string Y := by rw [← hY]; rfl
        rw [e1] at hc1
        rw [e2] at hc2
        have HIFF := hid hiff
        have HX := hid hx
        have HY := hid hy
        by_cases hxy : x = y
        · have hbe : (X.toList != Y.toList) = false := by rw [hXl, hYl, hxy]; simp
          have hbe2 : (X.toList == Y.toList) = true := by rw [hXl, hYl, hxy]; simp
          clear hiff hx hy hX hY hXl hYl e1 e2
          go_wp2
          go_quiet (fail)
          go_wp2
          go_roundw
          case rel => exact ⟨i + 1, by go_num, by omega, hid (HIFF.out.2 hxy), q + nq, rfl⟩
          case measure => simp [RowKit.intOf]; omega
        · have hbe : (X.toList != Y.toList) = true := by rw [hXl, hYl]; simpa using hxy
          have hbe2 : (X.toList == Y.toList) = false := by rw [hXl, hYl]; simpa using hxy
          have hf : ANS = false := by
            rw [← HANS.out]
            apply decide_eq_false
            intro e
            subst e
            exact hxy (by rw [← HX.out, ← HY.out])
          subst hf
          clear hiff hx hy hX hY hXl hYl e1 e2
          go_wp2
          go_quiet (fail)
          go_wp2
          go_ret
          exact ⟨rfl, q + nq, by rw [World.drewN_drewN]⟩
      · have hltz : ¬ (i : Int) < (la.length : Int) := by omega
        have hf : ANS = true := by
          rw [← HANS.out]
          apply decide_eq_true
          have h := ht.out
          rwa [List.take_of_length_le (by omega), List.take_of_length_le (by have := HL.out; omega)] at h
        subst hf
        go_wp2
        go_ret
        exact ⟨rfl, q, rfl⟩
  · have hlz : ((la.length : Int) != (lb.length : Int)) = true := by simp; omega
    have hf : decide (la = lb) = false := decide_eq_false (fun e => hl (by rw [e]))
    rw [hf]
    clear ha hb
    go_enter Tryz.func17, Tryz.ntmps17
    go_wp2
    go_ret
    exact ⟨rfl, 0, rfl⟩
end Go.Proofs.YtlgmanbilaminaaGreatDoor.S3
set_option linter.unusedVariables false
namespace Go.Proofs.YtlgmanbilaminaaGreatDoor
open Go Go.Proofs Go.RowKit Go.Lib
def RowsIn (w : World) (P : Nat → Prop) (A : Option Addr) (ls : List (List Str)) : Prop :=
  ls = [] ∨ ∃ b off, A = some ⟨b, off, none⟩ ∧ P b ∧ ∀ (j : Nat) (l : List Str), ls[j]? = some l → ∃ A' c', w.cell? ⟨b, off + j, none⟩ = some (.slice A' l.length c') ∧ l.length ≤ c' ∧ c' ≤ 9223372036854775807 ∧ S3.StrsIn w P A' l
theorem RowsIn.kept {w w' : World} {P : Nat → Prop} {A : Option Addr} {ls : List (List Str)} (h : RowsIn w P A ls) (hk : ∀ b, P b → w'.heap[b]? = w.heap[b]?) : RowsIn w' P A ls := by
  rcases h with h | ⟨b, off, hA, hP, hc⟩
  · exact .inl h
  · refine .inr ⟨b, off, hA, hP, fun j l hj => ?_⟩
    obtain ⟨A', c', h1, h2, h3, h4⟩ := hc j l hj
    exact ⟨A', c', (World.cell?_of_block (w := w) (hk b hP)).trans h1, h2, h3, h4.kept hk⟩
theorem RowsIn.mono {w : World} {P P' : Nat → Prop} {A : Option Addr} {l : List (List Str)} (h : RowsIn w P A l) (hP : ∀ b, P b → P' b) : RowsIn w P' A l := by
  rcases h with h | ⟨b, off, hA, hb, hc⟩
  · exact .inl h
  · refine .inr ⟨b, off, hA, hP b hb, fun j r hj => ?_⟩
    obtain ⟨A', c', h1, h2, h3, h4⟩ := hc j r hj
    exact ⟨A', c', h1, h2, h3, h4.mono hP⟩
theorem RowsIn.below {w w' : World} {B : Nat} {A : Option Addr} {l : List (List Str)} (h : RowsIn w (fun b => b < B) A l) (hb : Below B w w') : RowsIn w' (fun b => b < B) A l := h.kept fun b hB => hb.block b hB
theorem RowsIn.at_ {w : World} {P : Nat → Prop} {A : Option Addr} {ls : List (List Str)} (h : RowsIn w P A ls) {k : Nat} (hk : k < ls.length) :
    ∃ b off A' c', A = some ⟨b, off, none⟩ ∧ P b ∧ w.cell? ⟨b, off + k, none⟩ = some (.slice A' ls[k].length c') ∧ ls[k].length ≤ c' ∧ c' ≤ 9223372036854775807 ∧ S3.StrsIn w P A' ls[k] := by
  rcases h with h | ⟨b, off, hA, hP, hc⟩
  · subst h; simp at hk
  · obtain ⟨A', c', h1, h2, h3, h4⟩ := hc k _ (List.getElem?_eq_getElem hk)
    exact ⟨b, off, A', c', hA, hP, h1, h2, h3, h4⟩
theorem drewN_stays {w : World} {P : Nat → Prop} {A : Option Addr} {l : List Str} (h : S3.StrsIn w P A l) (q : Nat) : S3.StrsIn (w.drewN q) P A l := h.kept fun b _ => by
  induction q with
  | zero => rfl
  | succ q ih => exact ih
set_option maxHeartbeats 4000000 in
set_option maxRecDepth 100000 in
theorem sameLists_any (A A' : Option Addr) (la lb : List (List Str)) (ca cb : Nat) (P P' : Nat → Prop) (w : World) (ha : RowsIn w P A la) (hb : RowsIn w P' A' lb) (h63 : la.length ≤ 9223372036854775807) :
    Calls Tryz.prog 14 #[.slice A la.length ca, .slice A' lb.length cb] w fun e w' => e = .returned (.bool (decide (la = lb))) ∧ ∃ q, w' = w.drewN q := by
  by_cases hl : la.length = lb.length
  · have hlz : ((la.length : Int) != (lb.length : Int)) = false := by simp [hl]
    obtain ⟨ANS, hANS⟩ : ∃ ANS, decide (la = lb) = ANS := ⟨_, rfl⟩
    rw [hANS]
    have HA := hid ha
    have HB := hid hb
    have HANS := hid hANS
    have HL := hid hl
    clear ha hb hANS hl
    go_enter Tryz.func14, Tryz.ntmps14
    go_wp2
    go_loopw [5] (fun iv wr => ∃ i : Nat, iv = .int .i64 (i : Int) ∧ i ≤ la.length ∧ Hid (la.take i = lb.take i) ∧ Hid (∃ q, wr = w.drewN q)) (fun iv _ => la.length - (RowKit.intOf iv).toNat)
    case atStart => exact ⟨0, rfl, Nat.zero_le _, hid rfl, hid ⟨0, rfl⟩⟩
    case round =>
      obtain ⟨i, rfl, hi, ht, HQ⟩ := hrel
      have hst : ∀ k, wr.heap[k]? = w.heap[k]? := fun k => by obtain ⟨q, hq⟩ := HQ.out; rw [hq]; exact (Rolled.drawn (k + 1) w q).block k (by omega)
      by_cases hlt : i < la.length
      · have hltz : (i : Int) < (la.length : Int) := by omega
        have hltb : i < lb.length := by have := HL.out; omega
        have hltz2 : (i : Int) < (lb.length : Int) := by omega
        have d1 : decide (la.length ≤ i) = false := decide_eq_false (by omega)
        have d2 : decide (lb.length ≤ i) = false := decide_eq_false (by omega)
        obtain ⟨b1, o1, A1, c1, rfl, _, g1, e1, e2, s1⟩ := (HA.out.kept (fun b _ => hst b)).at_ hlt
        obtain ⟨b2, o2, A2, c2, rfl, _, g2, _, _, s2⟩ := (HB.out.kept (fun b _ => hst b)).at_ hltb
        have hiff : Hid (la.take (i + 1) = lb.take (i + 1) ↔ la[i] = lb[i]) := hid (by
          rw [List.take_succ_eq_append_getElem hlt, List.take_succ_eq_append_getElem hltb, ht.out]
          constructor
          · intro e
            have := List.append_cancel_left e
            simpa using this
          · intro e
            rw [e])
        have cS := fun k => S3.sameStrings_any A1 A2 la[i] lb[i] c1 c2 _ _ (wr.drewN k) (drewN_stays s1 k) (drewN_stays s2 k) (by omega)
        obtain ⟨D, hD⟩ : ∃ D, decide (la[i] = lb[i]) = D := ⟨_, rfl⟩
        rw [hD] at cS
        have HD : Hid (la[i] = lb[i] ↔ D = true) := hid (by rw [← hD]; simp)
        obtain ⟨n1, hn1⟩ : ∃ n, la[i].length = n := ⟨_, rfl⟩
        obtain ⟨n2, hn2⟩ : ∃ n, lb[i].length = n := ⟨_, rfl⟩
        rw [hn1] at cS g1
        rw [hn2] at cS g2
        have CS := hid cS
        clear cS hD hn1 hn2 s1 s2 hst e1 e2
        cases D with
        | true =>
          go_wp2
          go_quiet ((go_at_call 17; with_reducible refine Calls.quiet_of (CS.out _)))
          go_wp2
          go_roundw
          case rel => exact ⟨i + 1, by go_num, by omega, hid (hiff.out.2 (by have := HD.out; simpa using this)), hid (by obtain ⟨q, hq⟩ := HQ.out; exact ⟨q + nq, by rw [hq, World.drewN_drewN]⟩)⟩
          case measure => simp [RowKit.intOf]; omega
        | false =>
          have hf : ANS = false := by
            rw [← HANS.out]
            apply decide_eq_false
            intro e
            subst e
            have := HD.out
            simp at this
          subst hf
          go_wp2
          go_quiet ((go_at_call 17; with_reducible refine Calls.quiet_of (CS.out _)))
          go_wp2
          go_ret
          exact ⟨rfl, by obtain ⟨q, hq⟩ := HQ.out; exact ⟨q + nq, by rw [hq, World.drewN_drewN]⟩⟩
      · have hltz : ¬ (i : Int) < (la.length : Int) := by omega
        have hf : ANS = true := by
          rw [← HANS.out]
          apply decide_eq_true
          have h := ht.out
          rwa [List.take_of_length_le (by omega), List.take_of_length_le (by have := HL.out; omega)] at h
        subst hf
        go_wp2
        go_ret
        exact ⟨rfl, HQ.out⟩
  · have hlz : ((la.length : Int) != (lb.length : Int)) = true := by simp; omega
    have hf : decide (la = lb) = false := decide_eq_false (fun e => hl (by rw [e]))
    rw [hf]
    clear ha hb
    go_enter Tryz.func14, Tryz.ntmps14
    go_wp2
    go_ret
    exact ⟨rfl, 0, rfl⟩
end Go.Proofs.YtlgmanbilaminaaGreatDoor
set_option linter.unusedVariables false
namespace Go.Proofs.YtlgmanbilaminaaGreatDoor
open Go Go.Proofs Go.RowKit Go.Lib
abbrev RowA := List Str × (Option Addr × Nat)
def rowV (p : RowA) : Value := .slice p.2.1 p.1.length p.2.2
def RowsRow (w : World) (B : Nat) (v : Value) (L : List RowA) : Prop := w.ownsRow B 40 1 v L.length (L.map rowV) ∧
  ∀ p ∈ L, S3.StrsIn w (fun b => B ≤ b ∧ b < w.heap.size ∧ v.ownBlock ≠ some b) p.2.1 p.1 ∧ p.1.length ≤ p.2.2 ∧ p.2.2 ≤ 9223372036854775807
theorem RowsRow.nil (w : World) (B : Nat) : RowsRow w B (.slice none 0 0) [] := ⟨World.ownsRow_nil _ _ _ _, fun p hp => by simp at hp⟩
theorem RowsRow.rowsIn {w : World} {B : Nat} {v : Value} {L : List RowA} (h : RowsRow w B v L) : ∃ A c, v = .slice A L.length c ∧ L.length ≤ c ∧ c ≤ 9223372036854775807 ∧ RowsIn w (fun b => B ≤ b ∧ b < w.heap.size) A (L.map (·.1)) := by
  obtain ⟨h, hL⟩ := h
  have h' := h
  rcases h.2 with ⟨hv, h0⟩ | ⟨g, cap, cur, hv, hB, hg, h1, h2, _⟩
  · have hl : L = [] := List.eq_nil_of_length_eq_zero h0
    subst hl
    exact ⟨none, 0, by rw [hv]; rfl, Nat.le_refl _, by omega, .inl rfl⟩
  · refine ⟨_, cap, hv, h1, by unfold maxLen at h2; omega, .inr ⟨g, 0, rfl, ⟨hB, (Array.getElem?_eq_some_iff.1 hg).1⟩, fun j l hj => ?_⟩⟩
    rw [List.getElem?_map] at hj
    obtain ⟨p, hp, rfl⟩ := Option.map_eq_some_iff.1 hj
    obtain ⟨f1, f2, f3⟩ := hL p (List.mem_of_getElem? hp)
    refine ⟨p.2.1, p.2.2, ?_, f2, f3, f1.mono (fun b hb => ⟨hb.1, hb.2.1⟩)⟩
    have := World.ownsRow.cells h' (g := g) (by rw [hv]; rfl) j (rowV p) (by rw [List.getElem?_map, hp]; rfl)
    rw [Addr.add_lit] at this
    exact this
theorem RowsRow.snoc {w w1 w2 w3 w4 : World} {B : Nat} {v v' : Value} {L : List RowA} {l : List Str} {A : Option Addr} {c : Nat} (h : RowsRow w B v L) (hBw : B ≤ w1.heap.size) (h1 : Below w.heap.size w w1) (hb : Below w1.heap.size w1 w2) (hr : S3.StrRow w2 w1.heap.size (.slice A l.length c) l)
    (h3 : Below w2.heap.size w2 w3) (hown' : w4.ownsRow B 40 1 v' (L.length + 1) (L.map rowV ++ [.slice A l.length c])) (hg : w3.grownBy w4 v.ownBlock) (hat : v'.ownBlock = v.ownBlock ∨ v'.ownBlock = some w3.heap.size) : RowsRow w4 B v' (L ++ [(l, A, c)]) := by
  have hs1 := h1.size
  have hs2 := hb.size
  have hs3 := h3.size
  have hs4 := hg.size
  have hvl : ∀ g, v.ownBlock = some g → g < w.heap.size := fun g hg => (World.ownsRow.lt h.1 g hg).2
  refine ⟨by rw [List.map_append, List.length_append, List.length_singleton]; exact hown', fun p hp => ?_⟩
  rcases List.mem_append.1 hp with hp | hp
  · obtain ⟨f1, f2, f3⟩ := h.2 p hp
    refine ⟨S3.StrsIn.mono (f1.kept (w' := w4) (fun b hb' => ?_)) (fun b hb' => ⟨hb'.1, by omega, ?_⟩), f2, f3⟩
    · obtain ⟨k1, k2, k3⟩ := hb'
      rw [hg.block b (by omega) (fun e => k3 e.symm), h3.block b (by omega), hb.block b (by omega), h1.block b k2]
    · obtain ⟨k1, k2, k3⟩ := hb'
      intro e
      rcases hat with ha | ha
      · rw [ha] at e; exact k3 e
      · rw [ha] at e
        injection e with e
        omega
  · rw [List.mem_singleton] at hp
    subst hp
    obtain ⟨A5, c5, eA, hl5, hc5, hI5⟩ := hr.strsIn
    obtain ⟨rfl, rfl⟩ : A = A5 ∧ c = c5 := by injection eA with e1 _ e3; exact ⟨e1, e3⟩
    refine ⟨S3.StrsIn.mono (hI5.kept (w' := w4) (fun b hb' => ?_)) (fun b hb' => ⟨by omega, by omega, ?_⟩), hl5, hc5⟩
    · rw [hg.block b (by omega) (fun e => by have := hvl b e.symm; omega), h3.block b (by omega)]
    · intro e
      rcases hat with ha | ha
      · rw [ha] at e
        have := hvl b e
        omega
      · rw [ha] at e
        injection e with e
        omega
theorem infoStrs7 : (Tryz.prog.info? 40).map (fun i => (i.zero, i.size, i.bytes)) = some (some (.slice none 0 0), 1, 24) := by kernel_rfl
theorem one_slice (A : Option Addr) (n c : Nat) : ∀ u ∈ [Value.slice A n c], u.oneCell' = true := by
  intro u hu
  rw [List.mem_singleton] at hu
  subst hu
  rfl
def WriteOut (o : List (List Str) × Int) (w : World) (e : Ending) (w' : World) : Prop := (∃ v L, L.map (·.1) = o.1 ∧ e = .returned (.tuple #[v, .int .i64 o.2]) ∧ RowsRow w' w.heap.size v L) ∧ Below w.heap.size w w'
theorem RowsRow.low {w : World} {B B' : Nat} {v : Value} {L : List RowA} (h : RowsRow w B v L) (hB : B' ≤ B) : RowsRow w B' v L := by
  refine ⟨?_, fun p hp => ?_⟩
  · refine ⟨h.1.1, ?_⟩
    rcases h.1.2 with k | ⟨g, cap, cur, k1, k2, k3⟩
    · exact .inl k
    · exact .inr ⟨g, cap, cur, k1, by omega, k3⟩
  · obtain ⟨f1, f2, f3⟩ := h.2 p hp
    exact ⟨f1.mono (fun b hb => ⟨by omega, hb.2⟩), f2, f3⟩
end Go.Proofs.YtlgmanbilaminaaGreatDoor
