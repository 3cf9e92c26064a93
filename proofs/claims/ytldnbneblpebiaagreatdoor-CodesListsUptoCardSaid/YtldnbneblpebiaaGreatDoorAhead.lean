/-
  How many codes ahead are a range: the program's rangeAhead. Conditions: the library's variables hold what its text lays; the list is not empty, has at most 64 strings, and the first one has at most 16 bytes.
-/
import Derived.Test.YtldnbneblpebiaaGreatDoorJoinM
import Derived.Deep.RegionHeld3
import Derived.Deep.DeepCutAuto
import Derived.Deep.QuietTactic
import Derived.BigQuiet
set_option linter.unusedVariables false
namespace Go.Proofs.YtldnbneblpebiaaGreatDoor
open Go Go.Proofs Go.RowKit Go.Lib

theorem baOf {R : ByteArray} {l : Str} (h : lst R = l) : R = ba l := by
  rw [← h]; cases R; rfl
/-- While the list is looked at. -/
structure AK (w W1 wr : World) : Prop where
  b : Below w.heap.size w wr
  c : Below W1.heap.size W1 wr
theorem AK.step {w W1 wr w2 : World} (h : AK w W1 wr) (hb : Below wr.heap.size wr w2) : AK w W1 w2 := ⟨h.b.trans (hb.mono h.b.size), h.c.trans (hb.mono h.c.size)⟩
theorem AK.drew {w W1 wr : World} (h : AK w W1 wr) : AK w W1 wr.drew := ⟨h.b.drew, h.c.drew⟩
theorem AK.at_ {w W1 wr : World} (h : AK w W1 wr) {b off : Nat} {v : Value} (hb : b < W1.heap.size) (hc : W1.cell? ⟨b, off, none⟩ = some v) : wr.cell? ⟨b, off, none⟩ = some v :=
  (h.c.cell (p := ⟨b, off, none⟩) hb).trans hc

set_option maxHeartbeats 12000000 in
set_option maxRecDepth 100000 in
theorem ahead_any (A : Option Addr) (f : Str) (r : List Str) (c : Nat) (Pp : Nat → Prop) (w : World) (h : StrsIn w Pp A (f :: r)) (hPp : ∀ b, Pp b → b < w.heap.size) (h64 : r.length < 64) (hf : f.length ≤ 16) (hE : Env w) :
    Calls Tryz.prog 50 #[.slice A (r.length + 1) c] w fun e w' => e = .returned (.int .i64 (aheadM (f :: r) : Nat)) ∧ Below w.heap.size w w' := by
  rcases h with h | ⟨b, off, rfl, hb, hc⟩
  · cases h
  have cD := divide_any (ba f) hf w hE
  have c0 : w.cell? ⟨b, off, none⟩ = some (.string (ba f)) := hc 0 f rfl
  have hbl := hPp b hb
  have HC := hid hc
  have HE := hid hE
  have ho := (last_len f hf)
  have hnum := numL_small f hf
  obtain ⟨ANS, hANS⟩ : ∃ ANS, aheadM (f :: r) = ANS := ⟨_, rfl⟩
  rw [hANS]
  have HANS := hid hANS
  clear hc hE hANS
  go_enter Tryz.func50, Tryz.ntmps50
  go_wp2_with fail
  refine cD.mono ?_
  rintro e w1 ⟨⟨P, rfl, hP⟩, hb1⟩
  have hPs : P.size ≤ 16 := by rw [show P.size = (lst P).length from Lib.size_eq P, hP]; exact ho.2
  unfold divV
  rw [show lst (ba f) = f from rfl] at hP ⊢
  obtain ⟨nA, hnA⟩ : ∃ n, numL f = n := ⟨_, rfl⟩
  obtain ⟨wA, hwA⟩ : ∃ n, (lastS f).length = n := ⟨_, rfl⟩
  rw [hnA, hwA]
  rw [hnA] at hnum
  rw [hwA] at ho
  have HB1 := hid hb1
  obtain ⟨W1, hW1⟩ : ∃ W1, w1.alloc (.cells #[.string P, .int .i64 (nA : Int), .int .i64 (wA : Int)] 75) = W1 := ⟨_, rfl⟩
  have hz : W1.heap[w1.heap.size]? = some (.cells #[.string P, .int .i64 (nA : Int), .int .i64 (wA : Int)] 75 (0, 0)) := by rw [← hW1]; exact heap_alloc_new w1 _
  have hbW : Below w1.heap.size w1 W1 := by rw [← hW1]; exact (Below.refl _ w1).alloc (Nat.le_refl _) _
  have hlt1 : w1.heap.size < W1.heap.size := (Array.getElem?_eq_some_iff.1 hz).1
  have hbl1 : b < W1.heap.size := by have := hb1.size; omega
  have z0 : W1.cell? ⟨w1.heap.size, 0, none⟩ = some (.string P) := by rw [Lib.cell_of_heap hz]; rfl
  have z1 : W1.cell? ⟨w1.heap.size, 1, none⟩ = some (.int .i64 (nA : Int)) := by rw [Lib.cell_of_heap hz]; rfl
  have z2 : W1.cell? ⟨w1.heap.size, 2, none⟩ = some (.int .i64 (wA : Int)) := by rw [Lib.cell_of_heap hz]; rfl
  have HCW : Hid (∀ (i : Nat) (s : Str), (f :: r)[i]? = some s → W1.cell? ⟨b, off + i, none⟩ = some (.string (ba s))) := hid (fun i s hi =>
    (hbW.cell (p := ⟨b, off + i, none⟩) (by show b < w1.heap.size; have := hb1.size; omega)).trans ((hb1.cell (p := ⟨b, off + i, none⟩) hbl).trans (HC.out i s hi)))
  have HKW : Hid (AK w W1 W1) := hid ⟨hb1.trans (hbW.mono hb1.size), Below.refl _ _⟩
  have Z0 := hid z0
  have Z1 := hid z1
  have Z2 := hid z2
  clear hz z0 z1 z2 cD hbW
  obtain ⟨ok, hok⟩ : ∃ ok, hasL f = ok := ⟨_, rfl⟩
  have HA : Hid (aheadM (f :: r) = if ok = true then aheadGo f 1 r else 1) := hid (by show (if hasL f = true then aheadGo f 1 r else 1) = _; rw [hok])
  rw [HANS.out] at HA
  rw [hok]
  have HNT : Hid (∀ i, nthS f i = lst P ++ wrS (nA + i) wA) := hid (fun i => by unfold nthS; rw [hP, hnA, hwA])
  clear hok hnA hwA hP HANS
  go_wp2
  clear hW1
  go_loopw [3] (fun iv wr => ∃ i : Nat, iv = .int .i64 (i : Int) ∧ 1 ≤ i ∧ i ≤ r.length + 1 ∧ Hid (AK w W1 wr) ∧ Hid (ANS = if ok = true then aheadGo f i (r.drop (i - 1)) else i)) (fun iv _ => r.length + 1 - (RowKit.intOf iv).toNat)
  case atStart => exact ⟨1, rfl, by omega, by omega, HKW, hid (by rw [HA.out]; rfl)⟩
  case round =>
    obtain ⟨i, rfl, hi1, hi2, hK, hAns⟩ := hrel
    cases ok with
    | false =>
      have hr : Hid (ANS = i) := hid (by rw [hAns.out]; simp)
      go_wp2_with fail
      go_quiet (fail)
      go_wp2_with fail
      go_ret
      exact ⟨by rw [hr.out]; rfl, below_drewN hK.out.b _⟩
    | true =>
      have hr : Hid (ANS = aheadGo f i (r.drop (i - 1))) := hid (by rw [hAns.out]; simp)
      clear hAns HA
      by_cases hlt : i < r.length + 1
      · obtain ⟨j, hj⟩ : ∃ j, i = j + 1 := ⟨i - 1, by omega⟩
        have HJ := hid hj
        obtain ⟨s, hs⟩ : ∃ s, r[j]? = some s := ⟨_, List.getElem?_eq_getElem (by omega)⟩
        have hcell := HCW.out i s (by rw [hj, List.getElem?_cons_succ]; exact hs)
        have hstep : Hid (ANS = if s = nthS f i then aheadGo f (i + 1) (r.drop i) else i) := hid (by
          rw [hr.out, hj, show j + 1 - 1 = j by omega, List.drop_eq_getElem_cons (show j < r.length by omega)]
          rw [List.getElem?_eq_getElem (by omega)] at hs
          rw [Option.some.inj hs]
          rfl)
        have c63 : Hid (∀ wx, AK w W1 wx → Calls Tryz.prog 63 #[.agg #[.string P, .int .i64 (nA : Int), .int .i64 (wA : Int)], .int .i64 (i : Int)] wx fun e w' => e = .returned (.string (ba (nthS f i))) ∧ AK w W1 w') := hid (fun wx h => by
          have := after_any P nA wA i hPs (by omega) ho.1 wx (HE.out.below h.b)
          exact this.mono fun e w' ⟨⟨R, he, hl⟩, hb⟩ => ⟨by rw [he, baOf hl, HNT.out], h.step hb⟩)
        have hk := hK.out
        have q0 := hk.at_ hlt1 Z0.out
        have q1 := hk.at_ hlt1 Z1.out
        have q2 := hk.at_ hlt1 Z2.out
        have h0 := hk.at_ hbl1 hcell
        have hiz : (i : Int) < (r.length : Int) + 1 := by omega
        have hid1 : decide ((i : Int) < (r.length : Int) + 1) = true := decide_eq_true hiz
        have hid2 : decide (i < r.length + 1) = true := decide_eq_true hlt
        clear hj
        obtain ⟨S, hS⟩ : ∃ S, ba s = S := ⟨_, rfl⟩
        obtain ⟨T, hT⟩ : ∃ T, ba (nthS f i) = T := ⟨_, rfl⟩
        rw [hS] at hcell h0
        rw [hT] at c63
        rcases str_eq (a := S) (b := T) with ⟨he, t1, t2⟩ | ⟨he, t1, t2⟩
        · have hst : Hid (ANS = aheadGo f (i + 1) (r.drop i)) := hid (by
            rw [hstep.out, if_pos]
            rw [← hS, ← hT] at he
            exact he)
          have hk' : AK w W1 wr.drew := hK.out.drew
          have HCELL := hid hcell
          clear hS hT hK hr hstep hs he hcell h0 q0 q1 q2 hk
          go_wp2_with fail
          go_region_held3 (fun w' => w'.cell? ⟨w1.heap.size, 0, none⟩ = some (.string P) ∧ w'.cell? ⟨w1.heap.size, 1, none⟩ = some (.int .i64 (nA : Int)) ∧ w'.cell? ⟨w1.heap.size, 2, none⟩ = some (.int .i64 (wA : Int)) ∧ w'.cell? ⟨b, off + i, none⟩ = some (.string S))
            (first | exact ⟨hk'.at_ hlt1 Z0.out, hk'.at_ hlt1 Z1.out, hk'.at_ hlt1 Z2.out, hk'.at_ hbl1 HCELL.out⟩)
            (first | (go_at_call 63; refine (c63.out _ hk').mono ?_; rintro e w' ⟨rfl, hk'⟩))
          all_goals
            have HK' := hid hk'
            clear hk' c63
            go_wp2_with fail
            go_roundw
            case rel => exact ⟨i + 1, by go_num, by omega, by omega, HK'.out |> hid, hid (by rw [hst.out]; rfl)⟩
            case measure => simp [RowKit.intOf]; omega
        · have hst : Hid (ANS = i) := hid (by
            rw [hstep.out, if_neg]
            rw [← hS, ← hT] at he
            exact he)
          have hk' : AK w W1 wr.drew := hK.out.drew
          have HCELL := hid hcell
          clear hS hT hK hr hstep hs he hcell h0 q0 q1 q2 hk
          go_wp2_with fail
          go_region_held3 (fun w' => w'.cell? ⟨w1.heap.size, 0, none⟩ = some (.string P) ∧ w'.cell? ⟨w1.heap.size, 1, none⟩ = some (.int .i64 (nA : Int)) ∧ w'.cell? ⟨w1.heap.size, 2, none⟩ = some (.int .i64 (wA : Int)) ∧ w'.cell? ⟨b, off + i, none⟩ = some (.string S))
            (first | exact ⟨hk'.at_ hlt1 Z0.out, hk'.at_ hlt1 Z1.out, hk'.at_ hlt1 Z2.out, hk'.at_ hbl1 HCELL.out⟩)
            (first | (go_at_call 63; refine (c63.out _ hk').mono ?_; rintro e w' ⟨rfl, hk'⟩))
          all_goals
            go_wp2_with fail
            go_ret
            exact ⟨by rw [hst.out]; rfl, hk'.b⟩
      · obtain rfl : i = r.length + 1 := by omega
        have hr2 : Hid (ANS = r.length + 1) := hid (by rw [hr.out, List.drop_of_length_le (by omega)]; rfl)
        have hd1 : decide ((r.length : Int) + 1 < (r.length : Int) + 1) = false := decide_eq_false (by omega)
        go_wp2_with fail
        go_quiet (fail)
        go_wp2_with fail
        go_ret
        exact ⟨by rw [hr2.out]; rfl, below_drewN hK.out.b _⟩
end Go.Proofs.YtldnbneblpebiaaGreatDoor
