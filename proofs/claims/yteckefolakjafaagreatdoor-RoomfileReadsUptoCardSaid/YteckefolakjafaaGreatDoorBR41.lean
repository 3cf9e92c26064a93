/-
  The walk of RoomfileReads, given that the sanity check holds. Conditions: the records lie in memory, each text has at most 2097152 bytes; the variables hold what their text lays.
  Lists of lists of strings: Plain of the specification of records, SameLists. Conditions: the lists lie in memory.
  Records out of lists of fields: Plain of the specification of records. Conditions: the lists lie in memory; no more than 1000000 of each, of at most 1000000 bytes each.
  Open of roomfile. Conditions: the room's times lie in memory; the times begin below 2^63.
-/
import Derived.Test.YteckefolakjafaaGreatDoorBR40
import Derived.Test.YteckefolakjafaaGreatDoorBR09
import Derived.Test.YteckefolakjafaaGreatDoorBR21
import Derived.Test.YteckefolakjafaaGreatDoorBR01
import Derived.Test.YteckefolakjafaaGreatDoorBR38
import Derived.Test.YteckefolakjafaaGreatDoorBR33
import Derived.Deep.RegionHeld3
import Derived.BigQuiet
import Derived.Deep.RegionLaw
import Derived.Deep.AppendLies
import Derived.Maps.AppendAt
set_option linter.unusedVariables false
namespace Go.Proofs.YteckefolakjafaaGreatDoor
open Go Go.Proofs Go.RowKit Go.Lib

/-- Behind both calls of Read. -/
structure VR (w0 w2 : World) (d s b m : Int) (w : World) : Prop where
  g : K1 w0 d s b m w
  b : Below w2.heap.size w2 w
theorem VR.next {w0 w2 w w' : World} {d s b m : Int} (h : VR w0 w2 d s b m w) (k : Below w.heap.size w w') : VR w0 w2 d s b m w' := ⟨h.g.next k, h.b.trans (k.mono h.b.size)⟩
theorem rooms_under {w w' : World} {P : Nat → Prop} {A : Option Addr} {l : List RoomD} (h : RoomsIn w P A l) (hb : Below w.heap.size w w') (hP : ∀ k, P k → k < w.heap.size) : RoomsIn w' P A l := h.kept (fun k hk => hb.block k (hP k hk))
set_option maxHeartbeats 16000000 in
set_option maxRecDepth 100000 in
theorem rreadsLaw_any (d s b m n : Int) (A : Option Addr) (l : List RecD) (c : Nat) (w : World) (h : RecsIn w (fun k => k < w.heap.size) A l) (hl : l.length ≤ 500000000)
    (hsz : ∀ x ∈ l, ∀ f ∈ x.2, f.1.length ≤ 2097152) (hE : Env7 w) (hR : REnv7 w)
    (hA : ∀ w', Below w.heap.size w w' → Calls Tryz.prog 7 #[] w' (Says (.bool true) w')) :
    Calls Tryz.prog 4 #[.slice A l.length c, .agg #[.int .i64 d, .int .i64 s, .int .i64 b, .int .i64 m], .int .i64 n] w fun e w' => e = .returned (.bool true) ∧ Below w.heap.size w w' := by
  have hk := K1.first w d s b m 24
  have HK := hid hk
  have hin : ∀ w', Below w.heap.size w w' → RecsIn w' (fun k => k < w'.heap.size) A l := fun w' hb => (h.below hb).mono (fun k hk => Nat.lt_of_lt_of_le hk hb.size)
  have cP := fun w' (hb : Below w.heap.size w w') => read7_any d s b m n A l c w' (hin w' hb) (by omega) (fun x hx f hf => by have := hsz x hx f hf; omega) (hE.below hb (Nat.le_refl _))
  have cR := fun w' (hb : Below w.heap.size w w') => rread7_any d s b m n A l c w' (hin w' hb) (by omega) hsz (hR.below hb (Nat.le_refl _))
  unfold ReadOut at cP cR
  unfold Says at hA
  obtain ⟨⟨RS, PS⟩, hO⟩ : ∃ O, readM d s b m n l = O := ⟨_, rfl⟩
  have hrl : RS.length ≤ 16 := by
    have h1 := recsM_len d s b m n l
    unfold readM at hO
    split at hO
    · rw [hO] at h1; exact h1
    · injection hO with h2 _; rw [← h2]; decide
  have hpl : PS.length ≤ 500000001 := by
    have h1 := recsM_probs d s b m n l
    unfold readM at hO
    split at hO
    · rw [hO] at h1; dsimp only at h1; omega
    · injection hO with _ h2; rw [← h2]; decide
  simp only [hO] at cP cR
  have CP := hid cP
  have CR := hid cR
  have CA := hid hA
  have HIN := hid hin
  clear hk h hE hR hin cP cR hA hO hsz
  obtain ⟨g0, g1, g2, g3, _⟩ := HK.out.x
  go_enter Tryz.func4, Tryz.ntmps4
  go_wp2_with fail
  obtain ⟨wg, hwg⟩ : ∃ wg, w.alloc (.cells #[.int .i64 d, .int .i64 s, .int .i64 b, .int .i64 m] 24) = wg := ⟨_, rfl⟩
  have hkg := HK.out
  rw [hwg] at hkg g0 g1 g2 g3
  (try rw [hwg])
  have HKG := hid hkg
  clear hwg hkg HK g0 g1 g2 g3
  go_loopw [7] (fun iv wr => ∃ i : Nat, iv = .int .i64 (i : Int) ∧ i ≤ l.length ∧ Hid (∃ q, wr = wg.drewN q)) (fun iv _ => l.length - (RowKit.intOf iv).toNat)
  case atStart => exact ⟨0, rfl, Nat.zero_le _, hid ⟨0, rfl⟩⟩
  case round =>
    obtain ⟨i, rfl, hi, HQ⟩ := hrel
    have hkr : K1 w d s b m wr := by
      obtain ⟨q, hq⟩ := HQ.out
      rw [hq]
      exact HKG.out.next (S3.below_drewN (Below.refl _ wg) q)
    have HKR := hid hkr
    clear hkr
    by_cases hlt : i < l.length
    · have hltz : (i : Int) < (l.length : Int) := by omega
      obtain ⟨fb, fo, A', c', rfl, hfb, -, -, -, -, y1⟩ := (HIN.out wr HKR.out.b).at_ hlt
      obtain ⟨F, hF⟩ : ∃ F, l[i].2.length = F := ⟨_, rfl⟩
      rw [hF] at y1
      have hd : decide (l.length ≤ i) = false := decide_eq_false (by omega)
      clear hF
      by_cases h20 : 20 < F
      · have h20z : (20 : Int) < (F : Int) := by omega
        clear h20
        go_wp2_with fail
        refine (CA.out _ HKR.out.b).mono ?_
        rintro e w2 ⟨rfl, hb2⟩
        have HB2 := hid (HKR.out.b.trans (hb2.mono HKR.out.b.size))
        clear hb2
        go_wp2
        go_ret
        exact ⟨rfl, HB2.out⟩
      · have h20z : ¬ (20 : Int) < (F : Int) := by omega
        clear h20
        go_wp2
        go_roundw
        case rel => exact ⟨i + 1, by go_num, by omega, HQ⟩
        case measure => simp [RowKit.intOf]; omega
    · have hltz : ¬ (i : Int) < (l.length : Int) := by omega
      obtain ⟨g0, g1, g2, g3, _⟩ := HKR.out.x
      go_wp2_with fail
      refine (CP.out _ HKR.out.b).mono ?_
      rintro e w1 ⟨v1, v2, rfl, hr1, hp1, hb1⟩
      have HK1 := hid (HKR.out.next hb1)
      have HR1 := hid hr1
      have HP1 := hid hp1
      clear g0 g1 g2 g3 hb1 hr1 hp1
      obtain ⟨g0, g1, g2, g3, _⟩ := HK1.out.x
      go_wp2_with fail
      refine (CR.out _ HK1.out.b).mono ?_
      rintro e w2 ⟨v3, v4, rfl, hr2, hp2, hb2⟩
      obtain ⟨Aa, ca, rfl, -, hca, hia⟩ := HR1.out.roomsIn
      obtain ⟨Ab, cb, rfl, -, -, hib⟩ := hr2.roomsIn
      have hia2 : RoomsIn w2 (fun k => k < w2.heap.size) Aa RS := (hia.kept (fun k hk => hb2.block k (by rcases hk with h | h; exact h.2; exact h.2))).mono (fun k hk => Nat.lt_of_lt_of_le (by rcases hk with h | h; exact h.2; exact h.2) hb2.size)
      have hib2 : RoomsIn w2 (fun k => k < w2.heap.size) Ab RS := hib.mono (fun k hk => by rcases hk with h | h; exact h.2; exact h.2)
      have hpa2 := S3.row_under HP1.out hb2
      have hk' : VR w w2 d s b m w2 := ⟨HK1.out.next hb2, Below.refl _ _⟩
      have cA : Hid (∀ wx, VR w w2 d s b m wx → Calls Tryz.prog 7 #[] wx fun e w' => e = .returned (.bool true) ∧ VR w w2 d s b m w') := hid fun wx h => (CA.out wx h.g.b).mono fun e w' ⟨he, hb⟩ => ⟨he, h.next hb⟩
      have cS : Hid (∀ wx, VR w w2 d s b m wx → Calls Tryz.prog 13 #[.slice Aa RS.length ca, .slice Ab RS.length cb] wx fun e w' => e = .returned (.bool true) ∧ VR w w2 d s b m w') := hid fun wx h =>
        (same7_any Aa Ab RS ca cb _ _ wx (hia2.kept (fun k hk => h.b.block k hk)) (hib2.kept (fun k hk => h.b.block k hk)) (by omega)).mono fun e w' ⟨he, q, hw⟩ => ⟨he, by rw [hw]; exact h.next (S3.below_drewN (Below.refl _ _) q)⟩
      have cQ : Hid (∀ wx, VR w w2 d s b m wx → Calls Tryz.prog 14 #[v2, v4] wx fun e w' => e = .returned (.bool true) ∧ VR w w2 d s b m w') := hid fun wx h =>
        (sameProbs_any v2 v4 PS _ _ wx (S3.row_under hpa2 h.b) (S3.row_under hp2 h.b) (by omega)).mono fun e w' ⟨he, q, hw⟩ => ⟨he, by rw [hw]; exact h.next (S3.below_drewN (Below.refl _ _) q)⟩
      obtain ⟨RN, hRN⟩ : ∃ RN, RS.length = RN := ⟨_, rfl⟩
      rw [hRN] at cS ⊢
      clear CA CP CR hia hib hia2 hib2 hpa2 hr2 hp2 hb2 HR1 HP1 HK1 g0 g1 g2 g3 hRN hca
      go_wp2_with fail
      refine (cA.out _ hk').mono ?_
      rintro e w3 ⟨rfl, hk3⟩
      have HK3 := hid hk3
      clear hk3 hk'
      go_wp2_with fail
      refine (cS.out _ HK3.out).mono ?_
      rintro e w4 ⟨rfl, hk4⟩
      have HK4 := hid hk4
      clear hk4
      go_wp2_with fail
      refine (cQ.out _ HK4.out).mono ?_
      rintro e w5 ⟨rfl, hk5⟩
      have HK5 := hid hk5
      clear hk5
      go_wp2
      go_ret
      exact ⟨rfl, HK5.out.g.b⟩
end Go.Proofs.YteckefolakjafaaGreatDoor

set_option linter.unusedVariables false
namespace Go.Proofs.YteckefolakjafaaGreatDoor
open Go Go.Proofs Go.RowKit Go.Lib

/-- The slice at A holds slices that hold the lists ls, all in blocks with P. -/
def RowsIn (w : World) (P : Nat → Prop) (A : Option Addr) (ls : List (List Str)) : Prop :=
  ls = [] ∨ ∃ b off, A = some ⟨b, off, none⟩ ∧ P b ∧ ∀ (j : Nat) (l : List Str), ls[j]? = some l → ∃ A' c', w.cell? ⟨b, off + j, none⟩ = some (.slice A' l.length c') ∧ l.length ≤ c' ∧ c' ≤ 9223372036854775807 ∧ S3.StrsIn w P A' l
theorem RowsIn.kept {w w' : World} {P : Nat → Prop} {A : Option Addr} {ls : List (List Str)} (h : RowsIn w P A ls) (hk : ∀ b, P b → w'.heap[b]? = w.heap[b]?) : RowsIn w' P A ls := by
  rcases h with h | ⟨b, off, hA, hP, hc⟩
  · exact .inl h
  · refine .inr ⟨b, off, hA, hP, fun j l hj => ?_⟩
    obtain ⟨A', c', h1, h2, h3, h4⟩ := hc j l hj
    exact ⟨A', c', (World.cell?_of_block (w := w) (hk b hP)).trans h1, h2, h3, h4.kept hk⟩
theorem RowsIn.mono {w : World} {P P' : Nat → Prop} {A : Option Addr} {l : List (List Str)} (h : RowsIn w P A l) (hP : ∀ b, P b → P' b) : RowsIn w P' A l := by
  rcases h with h | ⟨b, off, hA, hb, hc⟩
  · exact .inl h
  · refine .inr ⟨b, off, hA, hP b hb, fun j r hj => ?_⟩
    obtain ⟨A', c', h1, h2, h3, h4⟩ := hc j r hj
    exact ⟨A', c', h1, h2, h3, h4.mono hP⟩
theorem RowsIn.below {w w' : World} {B : Nat} {A : Option Addr} {l : List (List Str)} (h : RowsIn w (fun b => b < B) A l) (hb : Below B w w') : RowsIn w' (fun b => b < B) A l := h.kept fun b hB => hb.block b hB
theorem RowsIn.at_ {w : World} {P : Nat → Prop} {A : Option Addr} {ls : List (List Str)} (h : RowsIn w P A ls) {k : Nat} (hk : k < ls.length) :
    ∃ b off A' c', A = some ⟨b, off, none⟩ ∧ P b ∧ w.cell? ⟨b, off + k, none⟩ = some (.slice A' ls[k].length c') ∧ ls[k].length ≤ c' ∧ c' ≤ 9223372036854775807 ∧ S3.StrsIn w P A' ls[k] := by
  rcases h with h | ⟨b, off, hA, hP, hc⟩
  · subst h; simp at hk
  · obtain ⟨A', c', h1, h2, h3, h4⟩ := hc k _ (List.getElem?_eq_getElem hk)
    exact ⟨b, off, A', c', hA, hP, h1, h2, h3, h4⟩
theorem drewN_stays {w : World} {P : Nat → Prop} {A : Option Addr} {l : List Str} (h : S3.StrsIn w P A l) (q : Nat) : S3.StrsIn (w.drewN q) P A l := h.kept fun b _ => by
  induction q with
  | zero => rfl
  | succ q ih => exact ih
set_option maxHeartbeats 4000000 in
set_option maxRecDepth 100000 in
theorem sameLists_any (A A' : Option Addr) (la lb : List (List Str)) (ca cb : Nat) (P P' : Nat → Prop) (w : World) (ha : RowsIn w P A la) (hb : RowsIn w P' A' lb) (h63 : la.length ≤ 9223372036854775807) :
    Calls Tryz.prog 10 #[.slice A la.length ca, .slice A' lb.length cb] w fun e w' => e = .returned (.bool (decide (la = lb))) ∧ ∃ q, w' = w.drewN q := by
  by_cases hl : la.length = lb.length
  · have hlz : ((la.length : Int) != (lb.length : Int)) = false := by simp [hl]
    obtain ⟨ANS, hANS⟩ : ∃ ANS, decide (la = lb) = ANS := ⟨_, rfl⟩
    rw [hANS]
    have HA := hid ha
    have HB := hid hb
    have HANS := hid hANS
    have HL := hid hl
    clear ha hb hANS hl
    go_enter Tryz.func10, Tryz.ntmps10
    go_wp2
    go_loopw [5] (fun iv wr => ∃ i : Nat, iv = .int .i64 (i : Int) ∧ i ≤ la.length ∧ Hid (la.take i = lb.take i) ∧ Hid (∃ q, wr = w.drewN q)) (fun iv _ => la.length - (RowKit.intOf iv).toNat)
    case atStart => exact ⟨0, rfl, Nat.zero_le _, hid rfl, hid ⟨0, rfl⟩⟩
    case round =>
      obtain ⟨i, rfl, hi, ht, HQ⟩ := hrel
      have hst : ∀ k, wr.heap[k]? = w.heap[k]? := fun k => by obtain ⟨q, hq⟩ := HQ.out; rw [hq]; exact (Rolled.drawn (k + 1) w q).block k (by omega)
      by_cases hlt : i < la.length
      · have hltz : (i : Int) < (la.length : Int) := by omega
        have hltb : i < lb.length := by have := HL.out; omega
        have hltz2 : (i : Int) < (lb.length : Int) := by omega
        have d1 : decide (la.length ≤ i) = false := decide_eq_false (by omega)
        have d2 : decide (lb.length ≤ i) = false := decide_eq_false (by omega)
        obtain ⟨b1, o1, A1, c1, rfl, _, g1, e1, e2, s1⟩ := (HA.out.kept (fun b _ => hst b)).at_ hlt
        obtain ⟨b2, o2, A2, c2, rfl, _, g2, _, _, s2⟩ := (HB.out.kept (fun b _ => hst b)).at_ hltb
        have hiff : Hid (la.take (i + 1) = lb.take (i + 1) ↔ la[i] = lb[i]) := hid (by
          rw [List.take_succ_eq_append_getElem hlt, List.take_succ_eq_append_getElem hltb, ht.out]
          constructor
          · intro e
            have := List.append_cancel_left e
            simpa using this
          · intro e
            rw [e])
        have cS := fun k => S3.sameStrings_any A1 A2 la[i] lb[i] c1 c2 _ _ (wr.drewN k) (drewN_stays s1 k) (drewN_stays s2 k) (by omega)
        obtain ⟨D, hD⟩ : ∃ D, decide (la[i] = lb[i]) = D := ⟨_, rfl⟩
        rw [hD] at cS
        have HD : Hid (la[i] = lb[i] ↔ D = true) := hid (by rw [← hD]; simp)
        obtain ⟨n1, hn1⟩ : ∃ n, la[i].length = n := ⟨_, rfl⟩
        obtain ⟨n2, hn2⟩ : ∃ n, lb[i].length = n := ⟨_, rfl⟩
        rw [hn1] at cS g1
        rw [hn2] at cS g2
        have CS := hid cS
        clear cS hD hn1 hn2 s1 s2 hst e1 e2
        cases D with
        | true =>
          go_wp2
          go_quiet ((go_at_call 28; with_reducible refine Calls.quiet_of (CS.out _)))
          go_wp2
          go_roundw
          case rel => exact ⟨i + 1, by go_num, by omega, hid (hiff.out.2 (by have := HD.out; simpa using this)), hid (by obtain ⟨q, hq⟩ := HQ.out; exact ⟨q + nq, by rw [hq, World.drewN_drewN]⟩)⟩
          case measure => simp [RowKit.intOf]; omega
        | false =>
          have hf : ANS = false := by
            rw [← HANS.out]
            apply decide_eq_false
            intro e
            subst e
            have := HD.out
            simp at this
          subst hf
          go_wp2
          go_quiet ((go_at_call 28; with_reducible refine Calls.quiet_of (CS.out _)))
          go_wp2
          go_ret
          exact ⟨rfl, by obtain ⟨q, hq⟩ := HQ.out; exact ⟨q + nq, by rw [hq, World.drewN_drewN]⟩⟩
      · have hltz : ¬ (i : Int) < (la.length : Int) := by omega
        have hf : ANS = true := by
          rw [← HANS.out]
          apply decide_eq_true
          have h := ht.out
          rwa [List.take_of_length_le (by omega), List.take_of_length_le (by have := HL.out; omega)] at h
        subst hf
        go_wp2
        go_ret
        exact ⟨rfl, HQ.out⟩
  · have hlz : ((la.length : Int) != (lb.length : Int)) = true := by simp; omega
    have hf : decide (la = lb) = false := decide_eq_false (fun e => hl (by rw [e]))
    rw [hf]
    clear ha hb
    go_enter Tryz.func10, Tryz.ntmps10
    go_wp2
    go_ret
    exact ⟨rfl, 0, rfl⟩
end Go.Proofs.YteckefolakjafaaGreatDoor

set_option linter.unusedVariables false
namespace Go.Proofs.YteckefolakjafaaGreatDoor
open Go Go.Proofs Go.RowKit Go.Lib

/-- The fields of a record that stands without quotes: each with the column at which it begins. -/
def colsM : Int → List Str → List FieldD
  | _, [] => []
  | c, s :: r => (s, c, false) :: colsM (c + ((s.length : Int) + 1)) r
def colAt : Int → List Str → Int
  | c, [] => c
  | c, s :: r => colAt (c + ((s.length : Int) + 1)) r
theorem colsM_app : ∀ (c : Int) (a b : List Str), colsM c (a ++ b) = colsM c a ++ colsM (colAt c a) b
  | c, [], b => rfl
  | c, s :: r, b => by simp [colsM, colAt, colsM_app _ r b]
theorem colAt_snoc : ∀ (c : Int) (a : List Str) (s : Str), colAt c (a ++ [s]) = colAt c a + ((s.length : Int) + 1)
  | c, [], s => rfl
  | c, t :: r, s => by simp [colAt, colAt_snoc _ r s]
theorem colsM_len : ∀ (c : Int) (a : List Str), (colsM c a).length = a.length
  | c, [] => rfl
  | c, s :: r => by simp [colsM, colsM_len _ r]
theorem colAt_range : ∀ (c : Int) (a : List Str), (∀ s ∈ a, s.length ≤ 1000000) → c ≤ colAt c a ∧ colAt c a ≤ c + a.length * 1000001
  | c, [], _ => by simp [colAt]
  | c, s :: r, h => by
    have h1 := h s (by simp)
    have h2 := colAt_range (c + ((s.length : Int) + 1)) r (fun t ht => h t (by simp [ht]))
    simp only [colAt, List.length_cons]
    omega
def plainM (l : List (List Str)) : List RecD := l.mapIdx fun i r => ((i : Int) + 1, colsM 1 r)
theorem plainM_len (l : List (List Str)) : (plainM l).length = l.length := by simp [plainM]
theorem plainM_take (l : List (List Str)) (i : Nat) (h : i < l.length) : plainM (l.take (i + 1)) = plainM (l.take i) ++ [((i : Int) + 1, colsM 1 l[i])] := by
  rw [List.take_succ_eq_append_getElem h]
  unfold plainM
  rw [List.mapIdx_append]
  congr 1
  simp [Nat.min_eq_left (Nat.le_of_lt h)]
theorem infoField : (Tryz.prog.info? 81).map (fun i => (i.zero, i.size, i.bytes)) = some (some (.agg #[.string ⟨#[]⟩, .int .i64 0, .bool false]), 3, 32) := by kernel_rfl
theorem infoRec : (Tryz.prog.info? 36).map (fun i => (i.zero, i.size, i.bytes)) = some (some (.agg #[.int .i64 0, .slice none 0 0]), 2, 32) := by kernel_rfl
def fieldVals (l : List FieldD) : List Value := l.flatMap fieldVs
theorem fieldVals_app (a b : List FieldD) : fieldVals (a ++ b) = fieldVals a ++ fieldVals b := by simp [fieldVals]
theorem fieldVals_get : ∀ (l : List FieldD) (j : Nat) (t : FieldD), l[j]? = some t → ∀ (i : Nat) (v : Value), (fieldVs t)[i]? = some v → (fieldVals l)[j * 3 + i]? = some v
  | [], j, t, h, _, _, _ => by simp at h
  | a :: r, 0, t, h, i, v, hv => by
    simp at h
    subst h
    have hi : i < 3 := (List.getElem?_eq_some_iff.1 hv).1
    unfold fieldVals
    rw [List.flatMap_cons, List.getElem?_append_left (by show _ < 3; omega)]
    simpa using hv
  | a :: r, j + 1, t, h, i, v, hv => by
    have := fieldVals_get r j t (by simpa using h) i v hv
    unfold fieldVals at this ⊢
    rw [List.flatMap_cons, List.getElem?_append_right (by show 3 ≤ _; omega)]
    show (List.flatMap fieldVs r)[(j + 1) * 3 + i - 3]? = _
    rw [show (j + 1) * 3 + i - 3 = j * 3 + i by omega]
    exact this
def FieldRow (w : World) (B : Nat) (v : Value) (l : List FieldD) : Prop := w.ownsRow B 81 3 v l.length (fieldVals l)
theorem FieldRow.fieldsIn {w : World} {B : Nat} {v : Value} {l : List FieldD} (h : FieldRow w B v l) : ∃ A c, v = .slice A l.length c ∧ l.length ≤ c ∧ c ≤ 9223372036854775807 ∧ FieldsIn w (fun b => v.ownBlock = some b) A l := by
  have h' := h
  rcases h.2 with ⟨hv, h0⟩ | ⟨g, cap, cur, hv, hB, hg, h1, h2, _⟩
  · have hl : l = [] := List.eq_nil_of_length_eq_zero h0
    subst hl
    exact ⟨none, 0, hv, Nat.le_refl _, by omega, .inl rfl⟩
  · refine ⟨_, cap, hv, h1, by unfold maxLen at h2; omega, .inr ⟨g, 0, rfl, by rw [hv]; rfl, fun j t hj i v' hv' => ?_⟩⟩
    have := World.ownsRow.cells h' (g := g) (by rw [hv]; rfl) (j * 3 + i) v' (fieldVals_get l j t hj i v' hv')
    rw [Addr.add_lit] at this
    rw [← Nat.add_assoc] at this
    exact this
abbrev RecA := RecD × (Option Addr × Nat)
def recVs (p : RecA) : List Value := [.int .i64 p.1.1, .slice p.2.1 p.1.2.length p.2.2]
def recVals (l : List RecA) : List Value := l.flatMap recVs
theorem recVals_app (a b : List RecA) : recVals (a ++ b) = recVals a ++ recVals b := by simp [recVals]
theorem recVals_len : ∀ l : List RecA, (recVals l).length = l.length * 2
  | [] => rfl
  | t :: r => by
    have := recVals_len r
    unfold recVals at this ⊢
    rw [List.flatMap_cons, List.length_append, this, List.length_cons]
    show 2 + _ = _
    omega
theorem recVals_get : ∀ (l : List RecA) (j : Nat) (t : RecA), l[j]? = some t → ∀ (i : Nat) (v : Value), (recVs t)[i]? = some v → (recVals l)[j * 2 + i]? = some v
  | [], j, t, h, _, _, _ => by simp at h
  | a :: r, 0, t, h, i, v, hv => by
    simp at h
    subst h
    have hi : i < 2 := (List.getElem?_eq_some_iff.1 hv).1
    unfold recVals
    rw [List.flatMap_cons, List.getElem?_append_left (by show _ < 2; omega)]
    simpa using hv
  | a :: r, j + 1, t, h, i, v, hv => by
    have := recVals_get r j t (by simpa using h) i v hv
    unfold recVals at this ⊢
    rw [List.flatMap_cons, List.getElem?_append_right (by show 2 ≤ _; omega)]
    show (List.flatMap recVs r)[(j + 1) * 2 + i - 2]? = _
    rw [show (j + 1) * 2 + i - 2 = j * 2 + i by omega]
    exact this
/-- A slice of records that the call owns; what they lead to lies in the call's own blocks, and not in the slice's. -/
def RecRow (w : World) (B : Nat) (v : Value) (l : List RecD) : Prop := ∃ L : List RecA, L.map (·.1) = l ∧ w.ownsRow B 36 2 v L.length (recVals L) ∧
  ∀ p ∈ L, FieldsIn w (fun b => B ≤ b ∧ b < w.heap.size ∧ v.ownBlock ≠ some b) p.2.1 p.1.2 ∧ p.1.2.length ≤ p.2.2 ∧ p.2.2 ≤ 9223372036854775807
theorem RecRow.recsIn {w : World} {B : Nat} {v : Value} {l : List RecD} (h : RecRow w B v l) : ∃ A c, v = .slice A l.length c ∧ l.length ≤ c ∧ c ≤ 9223372036854775807 ∧ RecsIn w (fun b => B ≤ b ∧ b < w.heap.size) A l := by
  obtain ⟨L, rfl, h, hL⟩ := h
  have h' := h
  have hn : (L.map (·.1)).length = L.length := List.length_map _
  rcases h.2 with ⟨hv, h0⟩ | ⟨g, cap, cur, hv, hB, hg, h1, h2, _⟩
  · have hl : L = [] := List.eq_nil_of_length_eq_zero h0
    subst hl
    exact ⟨none, 0, by rw [hv]; rfl, Nat.le_refl _, by omega, .inl rfl⟩
  · refine ⟨_, cap, by rw [hn]; exact hv, by rw [hn]; exact h1, by unfold maxLen at h2; omega, .inr ⟨g, 0, rfl, ⟨hB, (Array.getElem?_eq_some_iff.1 hg).1⟩, fun j r hj => ?_⟩⟩
    rw [List.getElem?_map] at hj
    obtain ⟨p, hp, rfl⟩ := Option.map_eq_some_iff.1 hj
    obtain ⟨f1, f2, f3⟩ := hL p (List.mem_of_getElem? hp)
    refine ⟨p.2.1, p.2.2, f1.mono (fun b hb => ⟨hb.1, hb.2.1⟩), f2, f3, ?_, ?_⟩
    · have := World.ownsRow.cells h' (g := g) (by rw [hv]; rfl) (j * 2 + 0) _ (recVals_get L j p hp 0 _ rfl)
      rw [Addr.add_lit] at this
      rw [← Nat.add_assoc] at this
      exact this
    · have := World.ownsRow.cells h' (g := g) (by rw [hv]; rfl) (j * 2 + 1) _ (recVals_get L j p hp 1 _ rfl)
      rw [Addr.add_lit] at this
      rw [← Nat.add_assoc] at this
      exact this
end Go.Proofs.YteckefolakjafaaGreatDoor

set_option linter.unusedVariables false
namespace Go.Proofs.YteckefolakjafaaGreatDoor
open Go Go.Proofs Go.RowKit Go.Lib

/-- Whether one of the times overlaps t. -/
def openM (r : RoomD) (t : TimeD) : Bool := !(r.2.2.2.2.any fun x => overB x.1 x.2.1 x.2.2.1 x.2.2.2 t.1 t.2.1 t.2.2.1 t.2.2.2)
set_option maxHeartbeats 2000000 in
theorem pred_open (k' y' t' l' : Int) (ht' : t' ≤ 9223372036854775807) (G : Nat) (w : World) (hG : Box4 w G k' y' t' l') :
    PredBelow Tryz.prog 41 #[.pointer (some ⟨G, 0, none⟩)] (fun x : TimeF => .agg (encT x).toArray) (fun x => overB x.1.1 x.1.2.1 x.1.2.2.1 x.1.2.2.2 k' y' t' l') w := fun W x hb => by
  obtain ⟨⟨k, y, t, l⟩, ht⟩ := x
  have cF := fun w => overlap_any k y t l k' y' t' l' ht ht' w
  unfold Says at cF
  have hGl := hG.lt
  have hG' := hG.next hb hGl
  obtain ⟨x0, x1, x2, x3, _⟩ := hG'
  have hsW := hb.size
  have hGW : G ≠ W.heap.size := by omega
  have hGL : G < W.heap.size := by omega
  show Calls Tryz.prog 41 #[.agg #[.int .i64 k, .int .i64 y, .int .i64 t, .int .i64 l], .pointer (some ⟨G, 0, none⟩)] W _
  show Calls _ _ _ _ fun e w' => e = .returned (.bool (overB k y t l k' y' t' l')) ∧ _
  obtain ⟨F, hF⟩ : ∃ F, overB k y t l k' y' t' l' = F := ⟨_, rfl⟩
  rw [hF] at cF ⊢
  have HB := hid (hb.alloc hb.size (.cells #[.int .i64 k, .int .i64 y, .int .i64 t, .int .i64 l] 55))
  clear hb hF hG
  go_enter Tryz.func41, Tryz.ntmps41
  go_wp2_with fail
  refine (cF _).mono ?_
  rintro e w' ⟨rfl, hb2⟩
  have HB2 := hid (HB.out.trans (hb2.mono HB.out.size))
  clear hb2
  go_wp2
  go_ret
  exact ⟨rfl, HB2.out⟩
set_option maxHeartbeats 8000000 in
set_option maxRecDepth 100000 in
theorem open_any (r : RoomD) (q : Room5) (t : TimeD) (ht : t.2.2.1 ≤ 9223372036854775807) (w : World) (h : RoomIn w (fun b => b < w.heap.size) r q) :
    Calls Tryz.prog 20 #[roomV r q, timeV t] w (Says (.bool (openM r t)) w) := by
  obtain ⟨code, bld, seats, fs, ts⟩ := r
  obtain ⟨A1, c1, A2, c2⟩ := q
  obtain ⟨k', y', t', l'⟩ := t
  obtain ⟨hf, htm, hf1, hf2, ht1, ht2⟩ := h
  dsimp only at hf htm hf1 hf2 ht1 ht2 ht
  unfold roomV timeV Says openM
  dsimp only
  have hx := Box5.new w (.string (ba code)) (.string (ba bld)) (.int .i64 seats) (.slice A1 fs.length c1) (.slice A2 ts.length c2)
  have hb1 := (Below.refl w.heap.size w).alloc (Nat.le_refl _) (.cells #[.string (ba code), .string (ba bld), .int .i64 seats, .slice A1 fs.length c1, .slice A2 ts.length c2] 46)
  have hs1 : (w.alloc (.cells #[.string (ba code), .string (ba bld), .int .i64 seats, .slice A1 fs.length c1, .slice A2 ts.length c2] 46)).heap.size = w.heap.size + 1 := by simp
  obtain ⟨w1, hw1⟩ : ∃ w1, w.alloc (.cells #[.string (ba code), .string (ba bld), .int .i64 seats, .slice A1 fs.length c1, .slice A2 ts.length c2] 46) = w1 := ⟨_, rfl⟩
  rw [hw1] at hx hb1 hs1
  have hG := Box4.new w1 k' y' t' l' 55
  have hb2 := (Below.refl w1.heap.size w1).alloc (Nat.le_refl _) (.cells #[.int .i64 k', .int .i64 y', .int .i64 t', .int .i64 l'] 55)
  obtain ⟨w2, hw2⟩ : ∃ w2, w1.alloc (.cells #[.int .i64 k', .int .i64 y', .int .i64 t', .int .i64 l'] 55) = w2 := ⟨_, rfl⟩
  rw [hw2] at hG hb2
  have hb := hb1.trans (hb2.mono (by omega))
  have cT := anyT_any (fun x => overB x.1 x.2.1 x.2.2.1 x.2.2.2 k' y' t' l') 41 #[.pointer (some ⟨w1.heap.size, 0, none⟩)] egOpen A2 ts c2 w.heap.size w2 hb.size (pred_open k' y' t' l' ht _ w2 hG) (htm.below hb) ht1 ht2
  obtain ⟨R, hR⟩ : ∃ R, (ts.any fun x => overB x.1 x.2.1 x.2.2.1 x.2.2.2 k' y' t' l') = R := ⟨_, rfl⟩
  rw [hR] at cT ⊢
  obtain ⟨y0, y1, y2, y3, y4⟩ := (hx.below hb2 hx.lt).cells
  rw [hs1] at cT
  have CT := hid cT
  have HB := hid hb
  clear cT hb hG hb1 hb2 hx hf htm hf1 hf2 ht1 ht2 hR
  go_enter Tryz.func20, Tryz.ntmps20
  go_wp2_with fail
  (try rw [hw1])
  (try rw [hw2])
  refine CT.out.mono ?_
  rintro e w' ⟨rfl, hb3⟩
  have HB3 := hid (HB.out.trans (hb3.mono HB.out.size))
  clear hb3
  cases R with
  | true =>
    go_wp2
    go_ret
    exact ⟨rfl, HB3.out⟩
  | false =>
    go_wp2
    go_ret
    exact ⟨rfl, HB3.out⟩
end Go.Proofs.YteckefolakjafaaGreatDoor

