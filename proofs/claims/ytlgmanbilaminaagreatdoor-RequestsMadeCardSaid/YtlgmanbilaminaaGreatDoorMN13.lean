/-
  Whether two lists of strings are equal: the reference's SameStrings. Conditions: both lie in memory. Lists of lists of strings: Plain of the specification of .. Conditions: as stated.
-/
import Derived.Test.YtlgmanbilaminaaGreatDoorMN10
import Derived.Test.YtlgmanbilaminaaGreatDoorMN11
import Derived.Test.YtlgmanbilaminaaGreatDoorMN12
import Derived.Maps.RangeWalk
import Derived.Sort.KeysCollected
set_option linter.unusedVariables false
namespace Go.Proofs.YtlgmanbilaminaaGreatDoor.S3
open Go Go.Proofs Go.RowKit Go.Lib
theorem drewN_heap (w : World) : ∀ (q b : Nat), (w.drewN q).heap[b]? = w.heap[b]?
  | 0, _ => rfl
  | q + 1, b => drewN_heap w q b
theorem take_eq_succ (la lb : List Str) (i : Nat) (hi : i < la.length) (hl : la.length = lb.length) (h : la.take i = lb.take i) : (la.take (i + 1) = lb.take (i + 1)) ↔ la[i] = lb[i]'(by omega) := by
  rw [List.take_add_one, List.take_add_one, List.getElem?_eq_getElem hi, List.getElem?_eq_getElem (show i < lb.length by omega), h]
  constructor
  · intro e
    simpa using List.append_cancel_left e
  · intro e
    rw [e]
set_option maxHeartbeats 2000000 in
set_option maxRecDepth 100000 in
theorem sameStrings_any (A A' : Option Addr) (la lb : List Str) (ca cb : Nat) (P P' : Nat → Prop) (w : World) (ha : StrsIn w P A la) (hb : StrsIn w P' A' lb) (h63 : la.length ≤ 9223372036854775807) :
    Calls Tryz.prog 17 #[.slice A la.length ca, .slice A' lb.length cb] w fun e w' => e = .returned (.bool (decide (la = lb))) ∧ ∃ q, w' = w.drewN q := by
  by_cases hl : la.length = lb.length
  · have hlz : ((la.length : Int) != (lb.length : Int)) = false := by simp [hl]
    obtain ⟨ANS, hANS⟩ : ∃ ANS, decide (la = lb) = ANS := ⟨_, rfl⟩
    rw [hANS]
    have HA := hid ha
    have HB := hid hb
    have HL := hid hl
    have HANS := hid hANS
    clear ha hb hl hANS
    go_enter Tryz.func17, Tryz.ntmps17
    go_wp2
    go_loopw [5] (fun iv wr => ∃ i : Nat, iv = .int .i64 (i : Int) ∧ i ≤ la.length ∧ Hid (la.take i = lb.take i) ∧ ∃ q, wr = w.drewN q) (fun iv _ => la.length - (RowKit.intOf iv).toNat)
    case atStart => exact ⟨0, rfl, Nat.zero_le _, hid rfl, 0, rfl⟩
    case round =>
      obtain ⟨i, rfl, hi, ht, q, rfl⟩ := hrel
      by_cases hlt : i < la.length
      · have hltz : (i : Int) < (la.length : Int) := by omega
        have hlt' : i < lb.length := by rw [← HL.out]; exact hlt
        have hltz' : (i : Int) < (lb.length : Int) := by omega
        obtain ⟨b1, o1, rfl, _, hc1⟩ := HA.out.at_ hlt
        obtain ⟨b2, o2, rfl, _, hc2⟩ := HB.out.at_ hlt'
        have hiff := take_eq_succ la lb i hlt HL.out ht.out
        obtain ⟨x, hx⟩ : ∃ x, la[i] = x := ⟨_, rfl⟩
        obtain ⟨y, hy⟩ : ∃ y, lb[i] = y := ⟨_, rfl⟩
        rw [hx] at hc1 hiff
        rw [hy] at hc2 hiff
        obtain ⟨X, hX⟩ : ∃ X : ByteArray, (⟨x.toArray⟩ : ByteArray) = X := ⟨_, rfl⟩
        obtain ⟨Y, hY⟩ : ∃ Y : ByteArray, (⟨y.toArray⟩ : ByteArray) = Y := ⟨_, rfl⟩
        have hXl : X.toList = x := by rw [Lib.toList_data, ← hX]
        have hYl : Y.toList = y := by rw [Lib.toList_data, ← hY]
        have e1 : strV x = .string X := by rw [← hX]; rfl
        have e2 : strV y = .string Y := by rw [← hY]; rfl
        rw [e1] at hc1
        rw [e2] at hc2
        have HIFF := hid hiff
        have HX := hid hx
        have HY := hid hy
        by_cases hxy : x = y
        · have hbe : (X.toList != Y.toList) = false := by rw [hXl, hYl, hxy]; simp
          have hbe2 : (X.toList == Y.toList) = true := by rw [hXl, hYl, hxy]; simp
          clear hiff hx hy hX hY hXl hYl e1 e2
          go_wp2
          go_quiet (fail)
          go_wp2
          go_roundw
          case rel => exact ⟨i + 1, by go_num, by omega, hid (HIFF.out.2 hxy), q + nq, rfl⟩
          case measure => simp [RowKit.intOf]; omega
        · have hbe : (X.toList != Y.toList) = true := by rw [hXl, hYl]; simpa using hxy
          have hbe2 : (X.toList == Y.toList) = false := by rw [hXl, hYl]; simpa using hxy
          have hf : ANS = false := by
            rw [← HANS.out]
            apply decide_eq_false
            intro e
            subst e
            exact hxy (by rw [← HX.out, ← HY.out])
          subst hf
          clear hiff hx hy hX hY hXl hYl e1 e2
          go_wp2
          go_quiet (fail)
          go_wp2
          go_ret
          exact ⟨rfl, q + nq, by rw [World.drewN_drewN]⟩
      · have hltz : ¬ (i : Int) < (la.length : Int) := by omega
        have hf : ANS = true := by
          rw [← HANS.out]
          apply decide_eq_true
          have h := ht.out
          rwa [List.take_of_length_le (by omega), List.take_of_length_le (by have := HL.out; omega)] at h
        subst hf
        go_wp2
        go_ret
        exact ⟨rfl, q, rfl⟩
  · have hlz : ((la.length : Int) != (lb.length : Int)) = true := by simp; omega
    have hf : decide (la = lb) = false := decide_eq_false (fun e => hl (by rw [e]))
    rw [hf]
    clear ha hb
    go_enter Tryz.func17, Tryz.ntmps17
    go_wp2
    go_ret
    exact ⟨rfl, 0, rfl⟩
end Go.Proofs.YtlgmanbilaminaaGreatDoor.S3
namespace Go.Proofs.YtlgmanbilaminaaGreatDoor
open Go Go.Proofs Go.RowKit Go.Lib
def RowsIn (w : World) (P : Nat → Prop) (A : Option Addr) (ls : List (List Str)) : Prop :=
  ls = [] ∨ ∃ b off, A = some ⟨b, off, none⟩ ∧ P b ∧ ∀ (j : Nat) (l : List Str), ls[j]? = some l → ∃ A' c', w.cell? ⟨b, off + j, none⟩ = some (.slice A' l.length c') ∧ l.length ≤ c' ∧ c' ≤ 9223372036854775807 ∧ S3.StrsIn w P A' l
theorem RowsIn.kept {w w' : World} {P : Nat → Prop} {A : Option Addr} {ls : List (List Str)} (h : RowsIn w P A ls) (hk : ∀ b, P b → w'.heap[b]? = w.heap[b]?) : RowsIn w' P A ls := by
  rcases h with h | ⟨b, off, hA, hP, hc⟩
  · exact .inl h
  · refine .inr ⟨b, off, hA, hP, fun j l hj => ?_⟩
    obtain ⟨A', c', h1, h2, h3, h4⟩ := hc j l hj
    exact ⟨A', c', (World.cell?_of_block (w := w) (hk b hP)).trans h1, h2, h3, h4.kept hk⟩
theorem RowsIn.mono {w : World} {P P' : Nat → Prop} {A : Option Addr} {l : List (List Str)} (h : RowsIn w P A l) (hP : ∀ b, P b → P' b) : RowsIn w P' A l := by
  rcases h with h | ⟨b, off, hA, hb, hc⟩
  · exact .inl h
  · refine .inr ⟨b, off, hA, hP b hb, fun j r hj => ?_⟩
    obtain ⟨A', c', h1, h2, h3, h4⟩ := hc j r hj
    exact ⟨A', c', h1, h2, h3, h4.mono hP⟩
theorem RowsIn.below {w w' : World} {B : Nat} {A : Option Addr} {l : List (List Str)} (h : RowsIn w (fun b => b < B) A l) (hb : Below B w w') : RowsIn w' (fun b => b < B) A l := h.kept fun b hB => hb.block b hB
theorem RowsIn.at_ {w : World} {P : Nat → Prop} {A : Option Addr} {ls : List (List Str)} (h : RowsIn w P A ls) {k : Nat} (hk : k < ls.length) :
    ∃ b off A' c', A = some ⟨b, off, none⟩ ∧ P b ∧ w.cell? ⟨b, off + k, none⟩ = some (.slice A' ls[k].length c') ∧ ls[k].length ≤ c' ∧ c' ≤ 9223372036854775807 ∧ S3.StrsIn w P A' ls[k] := by
  rcases h with h | ⟨b, off, hA, hP, hc⟩
  · subst h; simp at hk
  · obtain ⟨A', c', h1, h2, h3, h4⟩ := hc k _ (List.getElem?_eq_getElem hk)
    exact ⟨b, off, A', c', hA, hP, h1, h2, h3, h4⟩
theorem drewN_stays {w : World} {P : Nat → Prop} {A : Option Addr} {l : List Str} (h : S3.StrsIn w P A l) (q : Nat) : S3.StrsIn (w.drewN q) P A l := h.kept fun b _ => by
  induction q with
  | zero => rfl
  | succ q ih => exact ih
set_option maxHeartbeats 4000000 in
set_option maxRecDepth 100000 in
theorem sameLists_any (A A' : Option Addr) (la lb : List (List Str)) (ca cb : Nat) (P P' : Nat → Prop) (w : World) (ha : RowsIn w P A la) (hb : RowsIn w P' A' lb) (h63 : la.length ≤ 9223372036854775807) :
    Calls Tryz.prog 14 #[.slice A la.length ca, .slice A' lb.length cb] w fun e w' => e = .returned (.bool (decide (la = lb))) ∧ ∃ q, w' = w.drewN q := by
  by_cases hl : la.length = lb.length
  · have hlz : ((la.length : Int) != (lb.length : Int)) = false := by simp [hl]
    obtain ⟨ANS, hANS⟩ : ∃ ANS, decide (la = lb) = ANS := ⟨_, rfl⟩
    rw [hANS]
    have HA := hid ha
    have HB := hid hb
    have HANS := hid hANS
    have HL := hid hl
    clear ha hb hANS hl
    go_enter Tryz.func14, Tryz.ntmps14
    go_wp2
    go_loopw [5] (fun iv wr => ∃ i : Nat, iv = .int .i64 (i : Int) ∧ i ≤ la.length ∧ Hid (la.take i = lb.take i) ∧ Hid (∃ q, wr = w.drewN q)) (fun iv _ => la.length - (RowKit.intOf iv).toNat)
    case atStart => exact ⟨0, rfl, Nat.zero_le _, hid rfl, hid ⟨0, rfl⟩⟩
    case round =>
      obtain ⟨i, rfl, hi, ht, HQ⟩ := hrel
      have hst : ∀ k, wr.heap[k]? = w.heap[k]? := fun k => by obtain ⟨q, hq⟩ := HQ.out; rw [hq]; exact (Rolled.drawn (k + 1) w q).block k (by omega)
      by_cases hlt : i < la.length
      · have hltz : (i : Int) < (la.length : Int) := by omega
        have hltb : i < lb.length := by have := HL.out; omega
        have hltz2 : (i : Int) < (lb.length : Int) := by omega
        have d1 : decide (la.length ≤ i) = false := decide_eq_false (by omega)
        have d2 : decide (lb.length ≤ i) = false := decide_eq_false (by omega)
        obtain ⟨b1, o1, A1, c1, rfl, _, g1, e1, e2, s1⟩ := (HA.out.kept (fun b _ => hst b)).at_ hlt
        obtain ⟨b2, o2, A2, c2, rfl, _, g2, _, _, s2⟩ := (HB.out.kept (fun b _ => hst b)).at_ hltb
        have hiff : Hid (la.take (i + 1) = lb.take (i + 1) ↔ la[i] = lb[i]) := hid (by
          rw [List.take_succ_eq_append_getElem hlt, List.take_succ_eq_append_getElem hltb, ht.out]
          constructor
          · intro e
            have := List.append_cancel_left e
            simpa using this
          · intro e
            rw [e])
        have cS := fun k => S3.sameStrings_any A1 A2 la[i] lb[i] c1 c2 _ _ (wr.drewN k) (drewN_stays s1 k) (drewN_stays s2 k) (by omega)
        obtain ⟨D, hD⟩ : ∃ D, decide (la[i] = lb[i]) = D := ⟨_, rfl⟩
        rw [hD] at cS
        have HD : Hid (la[i] = lb[i] ↔ D = true) := hid (by rw [← hD]; simp)
        obtain ⟨n1, hn1⟩ : ∃ n, la[i].length = n := ⟨_, rfl⟩
        obtain ⟨n2, hn2⟩ : ∃ n, lb[i].length = n := ⟨_, rfl⟩
        rw [hn1] at cS g1
        rw [hn2] at cS g2
        have CS := hid cS
        clear cS hD hn1 hn2 s1 s2 hst e1 e2
        cases D with
        | true =>
          go_wp2
          go_quiet ((go_at_call 17; with_reducible refine Calls.quiet_of (CS.out _)))
          go_wp2
          go_roundw
          case rel => exact ⟨i + 1, by go_num, by omega, hid (hiff.out.2 (by have := HD.out; simpa using this)), hid (by obtain ⟨q, hq⟩ := HQ.out; exact ⟨q + nq, by rw [hq, World.drewN_drewN]⟩)⟩
          case measure => simp [RowKit.intOf]; omega
        | false =>
          have hf : ANS = false := by
            rw [← HANS.out]
            apply decide_eq_false
            intro e
            subst e
            have := HD.out
            simp at this
          subst hf
          go_wp2
          go_quiet ((go_at_call 17; with_reducible refine Calls.quiet_of (CS.out _)))
          go_wp2
          go_ret
          exact ⟨rfl, by obtain ⟨q, hq⟩ := HQ.out; exact ⟨q + nq, by rw [hq, World.drewN_drewN]⟩⟩
      · have hltz : ¬ (i : Int) < (la.length : Int) := by omega
        have hf : ANS = true := by
          rw [← HANS.out]
          apply decide_eq_true
          have h := ht.out
          rwa [List.take_of_length_le (by omega), List.take_of_length_le (by have := HL.out; omega)] at h
        subst hf
        go_wp2
        go_ret
        exact ⟨rfl, HQ.out⟩
  · have hlz : ((la.length : Int) != (lb.length : Int)) = true := by simp; omega
    have hf : decide (la = lb) = false := decide_eq_false (fun e => hl (by rw [e]))
    rw [hf]
    clear ha hb
    go_enter Tryz.func14, Tryz.ntmps14
    go_wp2
    go_ret
    exact ⟨rfl, 0, rfl⟩
abbrev RowA := List Str × (Option Addr × Nat)
def rowV (p : RowA) : Value := .slice p.2.1 p.1.length p.2.2
def RowsRow (w : World) (B : Nat) (v : Value) (L : List RowA) : Prop := w.ownsRow B 40 1 v L.length (L.map rowV) ∧
  ∀ p ∈ L, S3.StrsIn w (fun b => B ≤ b ∧ b < w.heap.size ∧ v.ownBlock ≠ some b) p.2.1 p.1 ∧ p.1.length ≤ p.2.2 ∧ p.2.2 ≤ 9223372036854775807
theorem RowsRow.nil (w : World) (B : Nat) : RowsRow w B (.slice none 0 0) [] := ⟨World.ownsRow_nil _ _ _ _, fun p hp => by simp at hp⟩
theorem RowsRow.rowsIn {w : World} {B : Nat} {v : Value} {L : List RowA} (h : RowsRow w B v L) : ∃ A c, v = .slice A L.length c ∧ L.length ≤ c ∧ c ≤ 9223372036854775807 ∧ RowsIn w (fun b => B ≤ b ∧ b < w.heap.size) A (L.map (·.1)) := by
  obtain ⟨h, hL⟩ := h
  have h' := h
  rcases h.2 with ⟨hv, h0⟩ | ⟨g, cap, cur, hv, hB, hg, h1, h2, _⟩
  · have hl : L = [] := List.eq_nil_of_length_eq_zero h0
    subst hl
    exact ⟨none, 0, by rw [hv]; rfl, Nat.le_refl _, by omega, .inl rfl⟩
  · refine ⟨_, cap, hv, h1, by unfold maxLen at h2; omega, .inr ⟨g, 0, rfl, ⟨hB, (Array.getElem?_eq_some_iff.1 hg).1⟩, fun j l hj => ?_⟩⟩
    rw [List.getElem?_map] at hj
    obtain ⟨p, hp, rfl⟩ := Option.map_eq_some_iff.1 hj
    obtain ⟨f1, f2, f3⟩ := hL p (List.mem_of_getElem? hp)
    refine ⟨p.2.1, p.2.2, ?_, f2, f3, f1.mono (fun b hb => ⟨hb.1, hb.2.1⟩)⟩
    have := World.ownsRow.cells h' (g := g) (by rw [hv]; rfl) j (rowV p) (by rw [List.getElem?_map, hp]; rfl)
    rw [Addr.add_lit] at this
    exact this
theorem RowsRow.snoc {w w1 w2 w3 w4 : World} {B : Nat} {v v' : Value} {L : List RowA} {l : List Str} {A : Option Addr} {c : Nat} (h : RowsRow w B v L) (hBw : B ≤ w1.heap.size) (h1 : Below w.heap.size w w1) (hb : Below w1.heap.size w1 w2) (hr : S3.StrRow w2 w1.heap.size (.slice A l.length c) l)
    (h3 : Below w2.heap.size w2 w3) (hown' : w4.ownsRow B 40 1 v' (L.length + 1) (L.map rowV ++ [.slice A l.length c])) (hg : w3.grownBy w4 v.ownBlock) (hat : v'.ownBlock = v.ownBlock ∨ v'.ownBlock = some w3.heap.size) : RowsRow w4 B v' (L ++ [(l, A, c)]) := by
  have hs1 := h1.size
  have hs2 := hb.size
  have hs3 := h3.size
  have hs4 := hg.size
  have hvl : ∀ g, v.ownBlock = some g → g < w.heap.size := fun g hg => (World.ownsRow.lt h.1 g hg).2
  refine ⟨by rw [List.map_append, List.length_append, List.length_singleton]; exact hown', fun p hp => ?_⟩
  rcases List.mem_append.1 hp with hp | hp
  · obtain ⟨f1, f2, f3⟩ := h.2 p hp
    refine ⟨S3.StrsIn.mono (f1.kept (w' := w4) (fun b hb' => ?_)) (fun b hb' => ⟨hb'.1, by omega, ?_⟩), f2, f3⟩
    · obtain ⟨k1, k2, k3⟩ := hb'
      rw [hg.block b (by omega) (fun e => k3 e.symm), h3.block b (by omega), hb.block b (by omega), h1.block b k2]
    · obtain ⟨k1, k2, k3⟩ := hb'
      intro e
      rcases hat with ha | ha
      · rw [ha] at e; exact k3 e
      · rw [ha] at e
        injection e with e
        omega
  · rw [List.mem_singleton] at hp
    subst hp
    obtain ⟨A5, c5, eA, hl5, hc5, hI5⟩ := hr.strsIn
    obtain ⟨rfl, rfl⟩ : A = A5 ∧ c = c5 := by injection eA with e1 _ e3; exact ⟨e1, e3⟩
    refine ⟨S3.StrsIn.mono (hI5.kept (w' := w4) (fun b hb' => ?_)) (fun b hb' => ⟨by omega, by omega, ?_⟩), hl5, hc5⟩
    · rw [hg.block b (by omega) (fun e => by have := hvl b e.symm; omega), h3.block b (by omega)]
    · intro e
      rcases hat with ha | ha
      · rw [ha] at e
        have := hvl b e
        omega
      · rw [ha] at e
        injection e with e
        omega
theorem infoStrs7 : (Tryz.prog.info? 40).map (fun i => (i.zero, i.size, i.bytes)) = some (some (.slice none 0 0), 1, 24) := by kernel_rfl
theorem one_slice (A : Option Addr) (n c : Nat) : ∀ u ∈ [Value.slice A n c], u.oneCell' = true := by
  intro u hu
  rw [List.mem_singleton] at hu
  subst hu
  rfl
def WriteOut (o : List (List Str) × Int) (w : World) (e : Ending) (w' : World) : Prop := (∃ v L, L.map (·.1) = o.1 ∧ e = .returned (.tuple #[v, .int .i64 o.2]) ∧ RowsRow w' w.heap.size v L) ∧ Below w.heap.size w w'
theorem RowsRow.low {w : World} {B B' : Nat} {v : Value} {L : List RowA} (h : RowsRow w B v L) (hB : B' ≤ B) : RowsRow w B' v L := by
  refine ⟨?_, fun p hp => ?_⟩
  · refine ⟨h.1.1, ?_⟩
    rcases h.1.2 with k | ⟨g, cap, cur, k1, k2, k3⟩
    · exact .inl k
    · exact .inr ⟨g, cap, cur, k1, by omega, k3⟩
  · obtain ⟨f1, f2, f3⟩ := h.2 p hp
    exact ⟨f1.mono (fun b hb => ⟨by omega, hb.2⟩), f2, f3⟩
end Go.Proofs.YtlgmanbilaminaaGreatDoor
namespace Go.Proofs.YtlgmanbilaminaaGreatDoor.S12
open Go Go.Proofs Go.RowKit Go.Lib Go.Sort Go.Proofs.YtlgmanbilaminaaGreatDoor
open Go.Maps (Keyed string_keyed)
open Go.WideMaps (keyOf_string_mk)
def leS (a b : Str) : Bool := decide (S3.cmpM a b ≤ 0)
theorem cmp_le_trans {a b c : Str} (h1 : S3.cmpM a b ≤ 0) (h2 : S3.cmpM b c ≤ 0) : S3.cmpM a c ≤ 0 := S3.cmpM_tot.trans a b c h1 h2
theorem cmp_swap (a b : Str) : S3.cmpM b a = - S3.cmpM a b := S3.cmpM_tot.swap a b
theorem cmp_anti {a b : Str} (h1 : S3.cmpM a b ≤ 0) (h2 : S3.cmpM b a ≤ 0) : a = b := (S3.cmpM_zero a b).1 (by have := cmp_swap a b; omega)
theorem leS_trans (a b c : Str) (h1 : leS a b = true) (h2 : leS b c = true) : leS a c = true := decide_eq_true (cmp_le_trans (of_decide_eq_true h1) (of_decide_eq_true h2))
theorem leS_total (a b : Str) : (leS a b || leS b a) = true := by
  unfold leS
  rw [Bool.or_eq_true, decide_eq_true_eq, decide_eq_true_eq, cmp_swap a b]
  omega
theorem leS_anti {a b : Str} (h1 : leS a b = true) (h2 : leS b a = true) : a = b := cmp_anti (of_decide_eq_true h1) (of_decide_eq_true h2)
theorem leS_unique {l l' : List Str} (hp : l.Perm l') (h1 : l.Pairwise (fun a b => leS a b = true)) (h2 : l'.Pairwise (fun a b => leS a b = true)) : l = l' :=
  List.Perm.eq_of_pairwise (le := fun a b => leS a b = true) (fun a b _ _ k1 k2 => leS_anti k1 k2) h1 h2 hp
def studM (l : List ReqD) : List Str := (studs l).mergeSort leS
theorem studM_sorted (l : List ReqD) : (studM l).Pairwise (fun a b => leS a b = true) := List.pairwise_mergeSort leS_trans leS_total _
theorem studM_perm (l : List ReqD) : (studM l).Perm (studs l) := List.mergeSort_perm _ _
theorem studM_unique {l : List ReqD} {ss : List Str} (hp : ss.Perm (studs l)) (h : ss.Pairwise (fun a b => leS a b = true)) : ss = studM l := leS_unique (hp.trans (studM_perm l).symm) h (studM_sorted l)
abbrev BStr := { s : Str // s.length ≤ maxLen }
instance : Inhabited BStr := ⟨⟨[], Nat.zero_le _⟩⟩
def encB (x : BStr) : Value := .string ⟨x.1.toArray⟩
def cfB (x y : BStr) : Int := S3.cmpM x.1 y.1
theorem swoB : SWO (ltOf cfB) := by
  refine ⟨fun x => ?_, fun x y z h1 h2 => ?_, fun x y z h1 h2 => ?_⟩
  · have := (S3.cmpM_zero x.1 x.1).2 rfl
    unfold ltOf cfB
    rw [this]; rfl
  · unfold ltOf cfB at *
    rw [decide_eq_true_eq] at *
    have h3 := cmp_le_trans (a := x.1) (b := y.1) (c := z.1) (by omega) (by omega)
    by_cases h4 : S3.cmpM x.1 z.1 = 0
    · have e := (S3.cmpM_zero _ _).1 h4
      rw [e] at h1
      have := cmp_swap y.1 z.1
      omega
    · omega
  · unfold ltOf cfB at *
    rw [decide_eq_false_iff_not] at *
    have h3 := cmp_le_trans (a := z.1) (b := y.1) (c := x.1) (by rw [cmp_swap y.1 z.1]; omega) (by rw [cmp_swap x.1 y.1]; omega)
    rw [cmp_swap x.1 z.1] at h3
    omega
theorem totB (x y : BStr) (h1 : ltOf cfB x y = false) (h2 : ltOf cfB y x = false) : x = y := by
  unfold ltOf cfB at *
  rw [decide_eq_false_iff_not] at *
  exact Subtype.ext (cmp_anti (by rw [cmp_swap y.1 x.1]; omega) (by rw [cmp_swap x.1 y.1]; omega))
theorem heap_putE {α : Type} [Inhabited α] {enc : α → Value} {w : World} {g n : Nat} {os : Array Obj} {cur : Array Value} {e : TypeId} {fr : Nat × Nat} (d : Array α) (hb : w.heap[g]? = some (.cells cur e fr)) :
    (grow (putRow enc (Sort.ahead w n) g 0 d) os).heap[g]? = some (.cells (putCells enc 0 d cur) e fr) := by
  have hg : g < w.heap.size := (Array.getElem?_eq_some_iff.1 hb).1
  rw [Go.Sort.heap_grow_old _ _ (by simpa [putRow, Go.Sort.mapBlock, Sort.ahead] using hg)]
  simp [putRow, Go.Sort.mapBlock, Sort.ahead, Array.getElem?_modify, hb, Go.Sort.onCells]
theorem grownBy_putE {α : Type} [Inhabited α] {enc : α → Value} {w : World} {g n : Nat} {os : Array Obj} (d : Array α) : w.grownBy (grow (putRow enc (Sort.ahead w n) g 0 d) os) (some g) := by
  refine ⟨rfl, rfl, rfl, by simp [putRow, Go.Sort.mapBlock, Sort.ahead], fun k hk hne => ?_⟩
  rw [Go.Sort.heap_grow_old _ _ (by simpa [putRow, Go.Sort.mapBlock, Sort.ahead] using hk)]
  have : g ≠ k := fun e => hne (by rw [e])
  simp [putRow, Go.Sort.mapBlock, Sort.ahead, Array.getElem?_modify, this]
theorem take_putE {α : Type} [Inhabited α] {enc : α → Value} (cur : Array Value) (ts : List α) (h : ts.length ≤ cur.size) : (putCells enc 0 ts.toArray cur).toList.take ts.length = ts.map enc := by
  apply List.ext_getElem?
  intro j
  by_cases hj : j < ts.length
  · rw [List.getElem?_take_of_lt hj, Array.getElem?_toList]
    simp [putCells, hj, show j < cur.size by omega]
  · rw [List.getElem?_take_eq_none (by omega), List.getElem?_eq_none (by simp; omega)]
theorem holdsB {w : World} {g : Nat} {cur : Array Value} {e : TypeId} {l : List BStr} (hb : w.heap[g]? = some (.cells cur e (0, 0))) (ht : cur.toList.take l.length = l.map encB) : Holds encB w g 0 l.toArray := by
  intro j hj
  have hj' : j < l.length := by simpa using hj
  refine ⟨?_, by simp [World.frozen?, hb]⟩
  have h1 : (cur.toList.take l.length)[j]? = (l.map encB)[j]? := by rw [ht]
  rw [List.getElem?_take_of_lt hj'] at h1
  simp only [World.cell?, hb, Nat.zero_add]
  simp only [Option.isSome_none, Bool.false_eq_true, if_false]
  rw [← Array.getElem?_toList, h1]
  simp [hj']
theorem lift_strs : ∀ (l : List Str), (∀ s ∈ l, s.length ≤ maxLen) → ∃ L : List BStr, L.map (·.1) = l
  | [], _ => ⟨[], rfl⟩
  | s :: r, h => by
    obtain ⟨L, hL⟩ := lift_strs r (fun t ht => h t (by simp [ht]))
    exact ⟨⟨s, h s (by simp)⟩ :: L, by rw [List.map_cons, hL]⟩
theorem encB_map (L : List BStr) : L.map encB = S3.strVals (L.map (·.1)) := by
  unfold S3.strVals
  rw [List.map_map]
  rfl
theorem sort_map (L : List BStr) : (L.mergeSort fun x y => !(ltOf cfB) y x).map (·.1) = (L.map (·.1)).mergeSort leS := by
  refine leS_unique ?_ ?_ (List.pairwise_mergeSort leS_trans leS_total _)
  · exact ((List.mergeSort_perm L _).map _).trans (List.mergeSort_perm _ _).symm
  · rw [List.pairwise_map]
    have h := List.pairwise_mergeSort (le := fun x y : BStr => !(ltOf cfB) y x) (fun a b c h1 h2 => by
      simp only [Bool.not_eq_true'] at *
      exact swoB.ntrans _ _ _ h2 h1) (fun a b => by
      simp only [Bool.or_eq_true, Bool.not_eq_true']
      unfold ltOf cfB
      rw [decide_eq_false_iff_not, decide_eq_false_iff_not, cmp_swap a.1 b.1]
      omega) L
    refine h.imp (fun {a b} hab => ?_)
    simp only [Bool.not_eq_true'] at hab
    unfold ltOf cfB at hab
    rw [decide_eq_false_iff_not] at hab
    unfold leS
    rw [decide_eq_true_eq, cmp_swap b.1 a.1]
    omega
set_option maxHeartbeats 1000000 in
theorem sortRow_any (v : Value) (l : List Str) (B : Nat) (w : World) (h : S3.StrRow w B v l) (hB : B ≤ w.heap.size) (hl : l.length ≤ 4611686018427387000) (hs : ∀ s ∈ l, s.length ≤ maxLen) :
    Calls Tryz.prog 47 #[v, .func (.func 48) #[] #[]] w fun e w' => e = .returned (.tuple #[]) ∧ S3.StrRow w' B v (l.mergeSort leS) ∧ Below B w w' := by
  have h' := h
  have eg : ∀ args w, (callFunc 48 args).run Tryz.prog w = .ok (.enter 48 args) w := enters_of Tryz.func48 (by kernel_rfl) rfl
  obtain ⟨L, hL⟩ := lift_strs l hs
  have hLl : L.length = l.length := by rw [← hL, List.length_map]
  rcases h.2 with ⟨hv, h0⟩ | ⟨g, cap, cur, hv, hg0, hg, h1, h2, h3, h4⟩
  · have hl : l = [] := List.eq_nil_of_length_eq_zero h0
    subst hl
    subst hv
    refine (AnyF.slices_SortFunc_none (P := Tryz.prog) (ρ := Tryz.sortStrs_ren) { Tryz.sortStrs with } none 0 _ w).mono ?_
    rintro e w' ⟨rfl, rfl⟩
    exact ⟨rfl, by rw [show ([] : List Str).mergeSort leS = [] by simp]; exact h', Below.refl _ _⟩
  · subst hv
    have hlt := (Array.getElem?_eq_some_iff.1 hg).1
    have ht : cur.toList.take L.length = L.map encB := by rw [hLl, encB_map, hL]; have h5 := h4; rw [Nat.mul_one] at h5; exact h5
    have hH := holdsB (l := L) hg ht
    have hcon := Any.slices_SortFunc_total Tryz.sortStrs encB (fun x => rfl) cfB swoB 48 #[] g 0 cap L.toArray w eg
      (fun _ _ _ _ x y => (compare_any ⟨x.1.toArray⟩ ⟨y.1.toArray⟩ (by have := x.2; unfold maxLen at this; rw [Lib.size_eq]; simpa using (by omega : x.1.length ≤ 9223372036854775807)) (by have := y.2; unfold maxLen at this; rw [Lib.size_eq]; simpa using (by omega : y.1.length ≤ 9223372036854775807)) _).mono fun e w' ⟨h1, h2⟩ => ⟨h1, grw_grown h2⟩) hH hlt (by simp; omega) totB
    have hcon2 : Calls Tryz.prog 47 #[.slice (some ⟨g, 0, none⟩) l.length cap, .func (.func 48) #[] #[]] w fun e w' => e = .returned (.tuple #[]) ∧ ∃ n os, w' = sortWorld encB w g 0 n (L.mergeSort fun x y => !(ltOf cfB) y x).toArray os := by rw [← hLl]; exact hcon
    refine hcon2.mono ?_
    rintro e w' ⟨rfl, n, os, rfl⟩
    have hsl : (L.mergeSort fun x y => !(ltOf cfB) y x).length = l.length := by rw [List.length_mergeSort, hLl]
    have hml : (l.mergeSort leS).length = l.length := List.length_mergeSort _
    unfold sortWorld
    refine ⟨rfl, ?_, (Below.refl _ w).grown (grownBy_putE _) hB (fun k hk => by injection hk; omega)⟩
    unfold S3.StrRow
    rw [hml]
    refine ⟨by rw [S3.strVals_len, hml, Nat.mul_one], .inr ⟨g, cap, _, rfl, hg0, heap_putE _ hg, h1, h2, by simp [putCells, h3], ?_⟩⟩
    rw [Nat.mul_one, ← hsl, take_putE cur _ (by rw [hsl]; omega), encB_map, sort_map, hL]
end Go.Proofs.YtlgmanbilaminaaGreatDoor.S12
namespace Go.Proofs.YtlgmanbilaminaaGreatDoor.S12
open Go Go.Proofs Go.Sort
section
variable {α : Type} [Inhabited α] (key : α → Int)
def Stab (l l' : List α) : Prop := (∀ p : Int, l'.filter (fun x => decide (key x = p)) = l.filter (fun x => decide (key x = p))) ∧ l'.Pairwise (fun a b => key a ≤ key b)
variable {key}
omit [Inhabited α] in
theorem Stab.nil : Stab key [] [] := ⟨fun _ => rfl, List.Pairwise.nil⟩
omit [Inhabited α] in
theorem stab_unique : ∀ {a b : List α}, (∀ p : Int, a.filter (fun x => decide (key x = p)) = b.filter (fun x => decide (key x = p))) → a.Pairwise (fun a b => key a ≤ key b) → b.Pairwise (fun a b => key a ≤ key b) → a = b
  | [], [], _, _, _ => rfl
  | [], y :: ys, h, _, _ => by have := h (key y); simp at this
  | x :: xs, [], h, _, _ => by have := h (key x); simp at this
  | x :: xs, y :: ys, h, h1, h2 => by
    obtain ⟨p1, p2⟩ := List.pairwise_cons.1 h1
    obtain ⟨q1, q2⟩ := List.pairwise_cons.1 h2
    have hx : key y ≤ key x := by
      have hm : x ∈ (y :: ys).filter (fun z => decide (key z = key x)) := by rw [← h (key x)]; simp
      rcases List.mem_cons.1 (List.mem_filter.1 hm).1 with e | e
      · rw [e]; exact Int.le_refl _
      · exact q1 x e
    have hy : key x ≤ key y := by
      have hm : y ∈ (x :: xs).filter (fun z => decide (key z = key y)) := by rw [h (key y)]; simp
      rcases List.mem_cons.1 (List.mem_filter.1 hm).1 with e | e
      · rw [e]; exact Int.le_refl _
      · exact p1 y e
    have hk : key x = key y := Int.le_antisymm hy hx
    have hxy : x = y := by
      have := h (key x)
      rw [List.filter_cons_of_pos (by simp), List.filter_cons_of_pos (by simp [hk])] at this
      exact (List.cons.inj this).1
    subst hxy
    rw [stab_unique (a := xs) (b := ys) (fun p => ?_) p2 q2]
    have := h p
    by_cases hp : key x = p
    · rw [List.filter_cons_of_pos (by simpa using hp), List.filter_cons_of_pos (by simpa using hp)] at this
      exact (List.cons.inj this).2
    · rw [List.filter_cons_of_neg (by simpa using hp), List.filter_cons_of_neg (by simpa using hp)] at this
      exact this
omit [Inhabited α] in
theorem Stab.unique {l a b : List α} (h1 : Stab key l a) (h2 : Stab key l b) : a = b := stab_unique (fun p => (h1.1 p).trans (h2.1 p).symm) h1.2 h2.2
variable (key)
def insP (x : α) : List α → List α
  | [] => [x]
  | y :: ys => if key x < key y then x :: y :: ys else y :: insP x ys
def sortP (l : List α) : List α := l.foldl (fun a x => insP key x a) []
variable {key}
omit [Inhabited α] in
theorem insP_mem (x : α) : ∀ (l : List α) (y : α), y ∈ insP key x l ↔ y = x ∨ y ∈ l
  | [], y => by simp [insP]
  | z :: zs, y => by
    unfold insP
    split
    · simp
    · rw [List.mem_cons, insP_mem x zs y, List.mem_cons]
      constructor
      · rintro (h | h | h)
        · exact .inr (.inl h)
        · exact .inl h
        · exact .inr (.inr h)
      · rintro (h | h | h)
        · exact .inr (.inl h)
        · exact .inl h
        · exact .inr (.inr h)
omit [Inhabited α] in
theorem insP_sorted (x : α) : ∀ (l : List α), l.Pairwise (fun a b => key a ≤ key b) → (insP key x l).Pairwise (fun a b => key a ≤ key b)
  | [], _ => by simp [insP]
  | z :: zs, h => by
    obtain ⟨h1, h2⟩ := List.pairwise_cons.1 h
    unfold insP
    split
    · rename_i hl
      refine List.pairwise_cons.2 ⟨fun y hy => ?_, h⟩
      rcases List.mem_cons.1 hy with rfl | hy
      · omega
      · have := h1 y hy; omega
    · rename_i hl
      refine List.pairwise_cons.2 ⟨fun y hy => ?_, insP_sorted x zs h2⟩
      rcases (insP_mem x zs y).1 hy with rfl | hy
      · omega
      · exact h1 y hy
omit [Inhabited α] in
theorem insP_filter (x : α) (p : Int) : ∀ (l : List α), l.Pairwise (fun a b => key a ≤ key b) → (insP key x l).filter (fun x => decide (key x = p)) = (l ++ [x]).filter (fun x => decide (key x = p))
  | [], _ => by simp [insP]
  | z :: zs, h => by
    obtain ⟨h1, h2⟩ := List.pairwise_cons.1 h
    unfold insP
    split
    · rename_i hl
      by_cases hp : key x = p
      · have hn : (z :: zs).filter (fun x => decide (key x = p)) = [] := List.filter_eq_nil_iff.2 (fun y hy => by
          have : key z ≤ key y := by
            rcases List.mem_cons.1 hy with rfl | hy
            · exact Int.le_refl _
            · exact h1 y hy
          simp only [decide_eq_true_eq]; omega)
        rw [List.filter_append, hn, List.filter_cons_of_pos (by simpa using hp), hn, List.filter_cons_of_pos (by simpa using hp)]
        rfl
      · rw [List.filter_append, List.filter_cons_of_neg (by simpa using hp), List.filter_cons_of_neg (p := fun x => decide (key x = p)) (a := x) (l := []) (by simpa using hp)]
        simp
    · rw [List.cons_append, List.filter_cons, List.filter_cons, insP_filter x p zs h2]
omit [Inhabited α] in
theorem Stab.snoc {l a : List α} (h : Stab key l a) (x : α) : Stab key (l ++ [x]) (insP key x a) := by
  refine ⟨fun p => ?_, insP_sorted x a h.2⟩
  rw [insP_filter x p a h.2, List.filter_append, List.filter_append, h.1 p]
omit [Inhabited α] in
theorem sortP_snoc (l : List α) (x : α) : sortP key (l ++ [x]) = insP key x (sortP key l) := by unfold sortP; rw [List.foldl_append]; rfl
omit [Inhabited α] in
theorem sortP_stab (l : List α) : Stab key l (sortP key l) := by
  have : ∀ r : List α, Stab key r.reverse (sortP key r.reverse) := by
    intro r
    induction r with
    | nil => exact Stab.nil
    | cons x r ih => rw [List.reverse_cons, sortP_snoc]; exact ih.snoc x
  simpa using this l.reverse
omit [Inhabited α] in
theorem sortP_unique {l a : List α} (h : Stab key l a) : a = sortP key l := h.unique (sortP_stab l)
omit [Inhabited α] in
theorem stab_map {β : Type} (f : β → α) {l a : List β} (h : Stab (fun x => key (f x)) l a) : Stab key (l.map f) (a.map f) := by
  refine ⟨fun p => ?_, List.pairwise_map.2 h.2⟩
  rw [List.filter_map, List.filter_map]
  exact congrArg _ (h.1 p)
variable (key)
def StabR (d d' : Array α) : Prop := d'.size = d.size ∧ ∀ p : Int, d'.toList.filter (fun x => decide (key x = p)) = d.toList.filter (fun x => decide (key x = p))
variable {key}
omit [Inhabited α] in
theorem StabR.refl (d : Array α) : StabR key d d := ⟨rfl, fun _ => rfl⟩
omit [Inhabited α] in
theorem StabR.trans {a b c : Array α} (h : StabR key a b) (k : StabR key b c) : StabR key a c := ⟨k.1.trans h.1, fun p => (k.2 p).trans (h.2 p)⟩
def exF (f : Nat → α) (s m e t : Nat) : α := if s ≤ t ∧ t < s + (e - m) then f (t + (m - s)) else if s + (e - m) ≤ t ∧ t < e then f (t - (e - m)) else f t
theorem ex_list (d d' : Array α) (s m e : Nat) (h1 : s ≤ m) (h2 : m ≤ e) (h3 : e ≤ d.size) (hs : d'.size = d.size) (hg : ∀ t, t < d.size → d'[t]! = exF (fun i => d[i]!) s m e t) :
    d'.toList = d.toList.take s ++ ((d.toList.drop m).take (e - m) ++ ((d.toList.drop s).take (m - s) ++ d.toList.drop e)) := by
  apply List.ext_getElem
  · simp; omega
  · intro t ht1 ht2
    have ht : t < d.size := by rw [← hs]; simpa using ht1
    have e1 : d'.toList[t] = d'[t]! := by rw [getElem!_pos d' t (by omega)]; simp
    have gd : ∀ i (hi : i < d.size), d[i]! = d.toList[i]'(by simpa using hi) := fun i hi => by rw [getElem!_pos d i hi]; simp
    rw [e1, hg t ht]
    unfold exF
    simp only [List.getElem_append, List.length_take, List.length_drop, Array.length_toList, List.getElem_take, List.getElem_drop]
    by_cases c1 : t < s
    · rw [if_neg (by omega), if_neg (by omega), dif_pos (by omega), gd t ht]
    · rw [dif_neg (by omega)]
      by_cases c2 : t < s + (e - m)
      · rw [if_pos (by omega), dif_pos (by omega), gd _ (by omega)]
        congr 1
        omega
      · rw [if_neg (by omega), dif_neg (by omega)]
        by_cases c3 : t < e
        · rw [if_pos (by omega), dif_pos (by omega), gd _ (by omega)]
          congr 1
          omega
        · rw [if_neg (by omega), dif_neg (by omega), gd _ (by omega)]
          congr 1
          omega
omit [Inhabited α] in
theorem parts_list (l : List α) (s m e : Nat) (h1 : s ≤ m) (h2 : m ≤ e) : l = l.take s ++ ((l.drop s).take (m - s) ++ ((l.drop m).take (e - m) ++ l.drop e)) := by
  have a := (List.take_append_drop s l).symm
  have b := (List.take_append_drop (m - s) (l.drop s)).symm
  have c := (List.take_append_drop (e - m) (l.drop m)).symm
  rw [List.drop_drop, show s + (m - s) = m by omega] at b
  rw [List.drop_drop, show m + (e - m) = e by omega] at c
  rw [← c, ← b, ← a]
theorem ex_stab {d d' : Array α} {s m e : Nat} (h1 : s ≤ m) (h2 : m ≤ e) (h3 : e ≤ d.size) (hs : d'.size = d.size) (hg : ∀ t, t < d.size → d'[t]! = exF (fun i => d[i]!) s m e t)
    (hk : ∀ i j, s ≤ i → i < m → m ≤ j → j < e → key d[j]! < key d[i]!) : StabR key d d' := by
  refine ⟨hs, fun p => ?_⟩
  rw [ex_list d d' s m e h1 h2 h3 hs hg]
  conv => rhs; rw [parts_list d.toList s m e h1 h2]
  simp only [List.filter_append]
  congr 1
  rw [← List.append_assoc, ← List.append_assoc]
  congr 1
  have memX : ∀ x ∈ (d.toList.drop s).take (m - s), ∃ i, s ≤ i ∧ i < m ∧ x = d[i]! := by
    intro x hx
    obtain ⟨i, hi, e1⟩ := List.getElem_of_mem hx
    simp only [List.length_take, List.length_drop, Array.length_toList] at hi
    refine ⟨s + i, by omega, by omega, ?_⟩
    rw [← e1, getElem!_pos d (s + i) (by omega)]
    simp
  have memY : ∀ x ∈ (d.toList.drop m).take (e - m), ∃ i, m ≤ i ∧ i < e ∧ x = d[i]! := by
    intro x hx
    obtain ⟨i, hi, e1⟩ := List.getElem_of_mem hx
    simp only [List.length_take, List.length_drop, Array.length_toList] at hi
    refine ⟨m + i, by omega, by omega, ?_⟩
    rw [← e1, getElem!_pos d (m + i) (by omega)]
    simp
  by_cases hX : ∃ i, s ≤ i ∧ i < m ∧ key d[i]! = p
  · obtain ⟨i, a1, a2, a3⟩ := hX
    have hn : ((d.toList.drop m).take (e - m)).filter (fun x => decide (key x = p)) = [] := List.filter_eq_nil_iff.2 (fun y hy => by
      obtain ⟨j, b1, b2, rfl⟩ := memY y hy
      have := hk i j a1 a2 b1 b2
      simp only [decide_eq_true_eq]; omega)
    rw [hn]
    simp
  · have hn : ((d.toList.drop s).take (m - s)).filter (fun x => decide (key x = p)) = [] := List.filter_eq_nil_iff.2 (fun y hy => by
      obtain ⟨j, b1, b2, rfl⟩ := memX y hy
      simp only [decide_eq_true_eq]
      exact fun e => hX ⟨j, b1, b2, e⟩)
    rw [hn]
    simp
theorem swp_ex (d : Array α) (j : Nat) (h : j + 1 < d.size) (t : Nat) (ht : t < d.size) : (swp d (j + 1) j)[t]! = exF (fun i => d[i]!) j (j + 1) (j + 2) t := by
  rw [swp_get d h (by omega)]
  unfold exF
  by_cases c1 : t = j
  · rw [if_pos c1, if_pos (by omega)]
    subst c1
    congr 1
    omega
  · by_cases c2 : t = j + 1
    · rw [if_neg c1, if_pos c2, if_neg (by omega), if_pos (by omega)]
      congr 1
      omega
    · rw [if_neg c1, if_neg c2, if_neg (by omega), if_neg (by omega)]
theorem swp_stab {d : Array α} {j : Nat} (h : j + 1 < d.size) (hk : key d[j + 1]! < key d[j]!) : StabR key d (swp d (j + 1) j) :=
  ex_stab (s := j) (m := j + 1) (e := j + 2) (by omega) (by omega) (by omega) (by rw [size_swp]) (fun t ht => swp_ex d j h t ht) (fun i i' h1 h2 h3 h4 => by
    obtain rfl : i = j := by omega
    obtain rfl : i' = i + 1 := by omega
    exact hk)
def cfK (key : α → Int) (x y : α) : Int := if key x < key y then -1 else if key y < key x then 1 else 0
omit [Inhabited α] in
theorem ltK (key : α → Int) (x y : α) : ltOf (cfK key) x y = decide (key x < key y) := by
  unfold ltOf cfK
  by_cases h : key x < key y
  · rw [if_pos h]; simp [h]
  · rw [if_neg h]
    by_cases h2 : key y < key x
    · rw [if_pos h2]; simp [h]
    · rw [if_neg h2]; simp [h]
omit [Inhabited α] in
theorem swoK (key : α → Int) : SWO (ltOf (cfK key)) := by
  refine ⟨fun x => ?_, fun x y z h1 h2 => ?_, fun x y z h1 h2 => ?_⟩ <;> simp only [ltK, decide_eq_true_eq, decide_eq_false_iff_not] at * <;> omega
theorem insInner_stab (a : Nat) : ∀ (j : Nat) (d : Array α), j < d.size → StabR key d (insInner (ltOf (cfK key)) a j d)
  | 0, d, _ => by rw [insInner]; exact StabR.refl d
  | j + 1, d, h => by
    rw [insInner]
    split
    · rename_i hc
      rw [Bool.and_eq_true, ltK, decide_eq_true_eq, decide_eq_true_eq] at hc
      exact (swp_stab h hc.2).trans (insInner_stab a j _ (by rw [size_swp]; omega))
    · exact StabR.refl d
theorem insOuter_stab (a b : Nat) : ∀ (n i : Nat) (d : Array α), b - i ≤ n → b ≤ d.size → StabR key d (insOuter (ltOf (cfK key)) a b i d)
  | 0, i, d, hn, hb => by rw [insOuter_stop _ _ _ _ _ (by omega)]; exact StabR.refl d
  | n + 1, i, d, hn, hb => by
    by_cases h : i < b
    · rw [insOuter_go _ _ _ _ _ h]
      have h1 := insInner_stab (key := key) a i d (by omega)
      exact h1.trans (insOuter_stab a b n (i + 1) _ (by omega) (by rw [h1.1]; exact hb))
    · rw [insOuter_stop _ _ _ _ _ h]; exact StabR.refl d
theorem insertion_stab (d : Array α) (a b : Nat) (hb : b ≤ d.size) : StabR key d (Sort.insertionSort (ltOf (cfK key)) d a b) := insOuter_stab a b (b - (a + 1)) (a + 1) d (Nat.le_refl _) hb
def SortedK (key : α → Int) (a b : Nat) (d : Array α) : Prop := ∀ i j, a ≤ i → i < j → j < b → key d[i]! ≤ key d[j]!
theorem sortedK_of {a b : Nat} {d : Array α} (h : SortedIn (ltOf (cfK key)) a b d) : SortedK key a b d := fun i j h1 h2 h3 => by
  have := h i j h1 h2 h3
  rw [ltK, decide_eq_false_iff_not] at this
  omega
theorem stab_of {d d' : Array α} (h : StabR key d d') (hs : SortedK key 0 d'.size d') : Stab key d.toList d'.toList := by
  refine ⟨h.2, List.pairwise_iff_getElem.2 (fun i j hi hj hij => ?_)⟩
  have hj' : j < d'.size := by simpa using hj
  have := hs i j (Nat.zero_le _) hij hj'
  rw [getElem!_pos d' i (by omega), getElem!_pos d' j hj'] at this
  simpa using this
end
end Go.Proofs.YtlgmanbilaminaaGreatDoor.S12
