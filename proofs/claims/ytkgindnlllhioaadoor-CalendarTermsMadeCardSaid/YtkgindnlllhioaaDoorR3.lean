/-
  The specification's terms: At, Where. Conditions: the holidays lie in memory as a slice of ints.
-/
import Derived.Test.YtkgindnlllhioaaDoorR2
set_option linter.unusedVariables false
namespace Go.Proofs.YtkgindnlllhioaaDoor
open Go Go.Proofs Go.RowKit Go.Lib

set_option maxHeartbeats 2000000 in
/-- The specification's At. -/
theorem rat_any (F W : Int) (A : Option Addr) (L : List Int) (c : Nat) (k d : Int) (hl : L.length ≤ 9223372036854775807) (w : World) (h : IntsIn w w.heap.size A L) :
    Calls Tryd.prog 19 #[termV F W A L.length c, .int .i64 k, .int .i64 d] w fun e w' => e = .returned (.tuple #[.int .i64 (Cal.atM F W L k d), .bool (Cal.atB F W L k d)]) ∧ Below w.heap.size w w' := by
  have cV := hid (fun w h => rvalid_any F W A L c hl w h)
  have HB : Hid (Below w.heap.size w (w.alloc (.cells #[.int .i64 F, .int .i64 W, .slice A L.length c] 37))) := hid ((Below.refl _ w).alloc (Nat.le_refl _) _)
  have H : Hid (∀ w' : World, Below w.heap.size w w' → IntsIn w' w'.heap.size A L) := hid (fun w' hb => (h.below hb).mono hb.size)
  clear h
  by_cases hv : Cal.validM F W L = 0
  · have hT := Cal.valid_term.1 hv
    have hf0 := hT.f0
    have hw0 := hT.w0
    have hw1 := hT.w1
    have hla := hT.last
    rw [hv] at cV
    clear hT
    by_cases hr : 1 ≤ k ∧ k ≤ W ∧ 0 ≤ d ∧ d < 7
    · obtain ⟨r1, r2, r3, r4⟩ := hr
      have q1 : decide (k < 1) = false := by simp; omega
      have q2 : decide (W < k) = false := by simp; omega
      have q3 : decide (d < 0) = false := by simp; omega
      have q4 : decide (6 < d) = false := by simp; omega
      have cC := hid (fun w h => free_any F W A L c (F + 7 * (k - 1) + d) hl w h)
      have hsm : 0 ≤ F + 7 * (k - 1) + d ∧ F + 7 * (k - 1) + d ≤ 100000 := by omega
      by_cases hm : F + 7 * (k - 1) + d ∈ L
      · have e := atB_no (F := F) (W := W) (L := L) (k := k) (d := d) (fun hh => hh.2.2.2.2.2 hm)
        rw [at_no e, e]
        rw [decide_eq_true hm] at cC
        clear e hm hv
        go_enter Tryd.func19, Tryd.ntmps19
        go_wp2_with fail
        refine (cV.out _ (H.out _ HB.out)).mono ?_
        rintro e w2 ⟨rfl, hb2⟩
        obtain ⟨hc2, _⟩ := bcell hb2
        have HB2 := hid (HB.out.trans (hb2.mono HB.out.size))
        clear hb2
        go_wp2_with fail
        refine (cC.out _ (H.out _ HB2.out)).mono ?_
        rintro e w3 ⟨rfl, hb3⟩
        have HB3 := hid (HB2.out.trans (hb3.mono HB2.out.size))
        clear hb3
        go_wp2
        go_ret2
        exact ⟨rfl, HB3.out⟩
      · have e := atB_yes (F := F) (W := W) (L := L) (k := k) (d := d) ⟨hv, r1, r2, r3, r4, hm⟩
        rw [at_yes e, e]
        rw [decide_eq_false hm] at cC
        clear e hm hv
        go_enter Tryd.func19, Tryd.ntmps19
        go_wp2_with fail
        refine (cV.out _ (H.out _ HB.out)).mono ?_
        rintro e w2 ⟨rfl, hb2⟩
        obtain ⟨hc2, _⟩ := bcell hb2
        have HB2 := hid (HB.out.trans (hb2.mono HB.out.size))
        clear hb2
        go_wp2_with fail
        refine (cC.out _ (H.out _ HB2.out)).mono ?_
        rintro e w3 ⟨rfl, hb3⟩
        have HB3 := hid (HB2.out.trans (hb3.mono HB2.out.size))
        clear hb3
        go_wp2
        go_ret2
        exact ⟨rfl, HB3.out⟩
    · have e := atB_no (F := F) (W := W) (L := L) (k := k) (d := d) (fun hh => hr ⟨hh.2.1, hh.2.2.1, hh.2.2.2.1, hh.2.2.2.2.1⟩)
      rw [at_no e, e]
      clear e hv
      by_cases q1 : k < 1
      case pos =>
        clear hr
        go_enter Tryd.func19, Tryd.ntmps19
        go_wp2_with fail
        refine (cV.out _ (H.out _ HB.out)).mono ?_
        rintro e w2 ⟨rfl, hb2⟩
        have HB2 := hid (HB.out.trans (hb2.mono HB.out.size))
        clear hb2
        go_wp2
        go_ret2
        exact ⟨rfl, HB2.out⟩
      case neg =>
        have q1' : decide (k < 1) = false := by simpa using q1
        by_cases q2 : W < k
        case pos =>
          clear hr
          go_enter Tryd.func19, Tryd.ntmps19
          go_wp2_with fail
          refine (cV.out _ (H.out _ HB.out)).mono ?_
          rintro e w2 ⟨rfl, hb2⟩
          obtain ⟨hc2, _⟩ := bcell hb2
          have HB2 := hid (HB.out.trans (hb2.mono HB.out.size))
          clear hb2
          go_wp2
          go_ret2
          exact ⟨rfl, HB2.out⟩
        case neg =>
          have q2' : decide (W < k) = false := by simpa using q2
          by_cases q3 : d < 0
          case pos =>
            clear hr
            go_enter Tryd.func19, Tryd.ntmps19
            go_wp2_with fail
            refine (cV.out _ (H.out _ HB.out)).mono ?_
            rintro e w2 ⟨rfl, hb2⟩
            obtain ⟨hc2, _⟩ := bcell hb2
            have HB2 := hid (HB.out.trans (hb2.mono HB.out.size))
            clear hb2
            go_wp2
            go_ret2
            exact ⟨rfl, HB2.out⟩
          case neg =>
            have q3' : decide (d < 0) = false := by simpa using q3
            have q4 : 6 < d := by omega
            clear hr
            go_enter Tryd.func19, Tryd.ntmps19
            go_wp2_with fail
            refine (cV.out _ (H.out _ HB.out)).mono ?_
            rintro e w2 ⟨rfl, hb2⟩
            obtain ⟨hc2, _⟩ := bcell hb2
            have HB2 := hid (HB.out.trans (hb2.mono HB.out.size))
            clear hb2
            go_wp2
            go_ret2
            exact ⟨rfl, HB2.out⟩
  · have e := atB_no (F := F) (W := W) (L := L) (k := k) (d := d) (fun hh => hv hh.1)
    rw [at_no e, e]
    have hne : (Cal.validM F W L == 0) = false := by simpa using hv
    have hne' : (Cal.validM F W L != 0) = true := by simpa using hv
    generalize Cal.validM F W L = V at cV hne hne'
    clear e hv
    go_enter Tryd.func19, Tryd.ntmps19
    go_wp2_with fail
    refine (cV.out _ (H.out _ HB.out)).mono ?_
    rintro e w2 ⟨rfl, hb2⟩
    have HB2 := hid (HB.out.trans (hb2.mono HB.out.size))
    clear hb2
    go_wp2
    go_ret2
    exact ⟨rfl, HB2.out⟩

set_option maxHeartbeats 2000000 in
/-- The specification's Where. -/
theorem rwhere_any (F W : Int) (A : Option Addr) (L : List Int) (c : Nat) (d : Int) (hl : L.length ≤ 9223372036854775807) (w : World) (h : IntsIn w w.heap.size A L) :
    Calls Tryd.prog 21 #[termV F W A L.length c, .int .i64 d] w fun e w' => e = .returned (.tuple #[.int .i64 (Cal.whereW F W L d), .int .i64 (Cal.whereD F W L d), .bool (Cal.whereB F W L d)]) ∧ Below w.heap.size w w' := by
  have cV := hid (fun w h => rvalid_any F W A L c hl w h)
  have HB : Hid (Below w.heap.size w (w.alloc (.cells #[.int .i64 F, .int .i64 W, .slice A L.length c] 37))) := hid ((Below.refl _ w).alloc (Nat.le_refl _) _)
  have H : Hid (∀ w' : World, Below w.heap.size w w' → IntsIn w' w'.heap.size A L) := hid (fun w' hb => (h.below hb).mono hb.size)
  have cC := hid (fun w h => free_any F W A L c d hl w h)
  clear h
  by_cases hv : Cal.validM F W L = 0
  · have hT := Cal.valid_term.1 hv
    have hf0 := hT.f0
    have hw0 := hT.w0
    have hw1 := hT.w1
    have hla := hT.last
    rw [hv] at cV
    clear hT
    by_cases r1 : F ≤ d
    · by_cases r2 : d ≤ F + 7 * W - 1
      · have q1 : decide (d < F) = false := by simp; omega
        have q2 : decide (F + 7 * W ≤ d) = false := by simp; omega
        by_cases hm : d ∈ L
        · have e := whB_no (F := F) (W := W) (L := L) (d := d) (fun hh => hh.2.2.2 hm)
          rw [(wh_no e).1, (wh_no e).2, e]
          rw [decide_eq_true hm] at cC
          clear e hm hv
          go_enter Tryd.func21, Tryd.ntmps21
          go_wp2_with fail
          refine (cV.out _ (H.out _ HB.out)).mono ?_
          rintro e w2 ⟨rfl, hb2⟩
          obtain ⟨hc2, _⟩ := bcell hb2
          have HB2 := hid (HB.out.trans (hb2.mono HB.out.size))
          have HZ2 : Hid (w.heap.size + 1 ≤ w2.heap.size) := hid (by have := hb2.size; simpa using this)
          clear hb2
          go_wp2_with fail
          refine (cC.out _ (H.out _ HB2.out)).mono ?_
          rintro e w3 ⟨rfl, hb3⟩
          have HB3 := hid (HB2.out.trans (hb3.mono HB2.out.size))
          clear hb3
          go_wp2
          go_ret3
          exact ⟨rfl, HB3.out⟩
        · have e := whB_yes (F := F) (W := W) (L := L) (d := d) ⟨hv, r1, r2, hm⟩
          rw [(wh_yes e).1, (wh_yes e).2, e]
          rw [decide_eq_false hm] at cC
          clear e hm hv
          go_enter Tryd.func21, Tryd.ntmps21
          go_wp2_with fail
          refine (cV.out _ (H.out _ HB.out)).mono ?_
          rintro e w2 ⟨rfl, hb2⟩
          obtain ⟨hc2, _⟩ := bcell hb2
          have HB2 := hid (HB.out.trans (hb2.mono HB.out.size))
          have HZ2 : Hid (w.heap.size + 1 ≤ w2.heap.size) := hid (by have := hb2.size; simpa using this)
          clear hb2
          have hz2 : w.heap.size < w2.heap.size := by have := HZ2.out; omega
          go_wp2_with fail
          refine (cC.out _ (H.out _ HB2.out)).mono ?_
          rintro e w3 ⟨rfl, hb3⟩
          obtain ⟨hc3, _⟩ := bcell hb3
          have HB3 := hid (HB2.out.trans (hb3.mono HB2.out.size))
          clear hb3
          go_wp2
          go_quiet (fail)
          go_wp2
          go_ret3
          exact ⟨rfl, below_drawn HB3.out nq⟩
      · have e := whB_no (F := F) (W := W) (L := L) (d := d) (fun hh => r2 hh.2.2.1)
        rw [(wh_no e).1, (wh_no e).2, e]
        have q1 : decide (d < F) = false := by simp; omega
        have q2 : F + 7 * W ≤ d := by omega
        clear e hv r2
        go_enter Tryd.func21, Tryd.ntmps21
        go_wp2_with fail
        refine (cV.out _ (H.out _ HB.out)).mono ?_
        rintro e w2 ⟨rfl, hb2⟩
        obtain ⟨hc2, _⟩ := bcell hb2
        have HB2 := hid (HB.out.trans (hb2.mono HB.out.size))
        have HZ2 : Hid (w.heap.size + 1 ≤ w2.heap.size) := hid (by have := hb2.size; simpa using this)
        clear hb2
        go_wp2
        go_ret3
        exact ⟨rfl, HB2.out⟩
    · have e := whB_no (F := F) (W := W) (L := L) (d := d) (fun hh => r1 hh.2.1)
      rw [(wh_no e).1, (wh_no e).2, e]
      have q1 : d < F := by omega
      clear e hv r1
      go_enter Tryd.func21, Tryd.ntmps21
      go_wp2_with fail
      refine (cV.out _ (H.out _ HB.out)).mono ?_
      rintro e w2 ⟨rfl, hb2⟩
      obtain ⟨hc2, _⟩ := bcell hb2
      have HB2 := hid (HB.out.trans (hb2.mono HB.out.size))
      have HZ2 : Hid (w.heap.size + 1 ≤ w2.heap.size) := hid (by have := hb2.size; simpa using this)
      clear hb2
      go_wp2
      go_ret3
      exact ⟨rfl, HB2.out⟩
  · have e := whB_no (F := F) (W := W) (L := L) (d := d) (fun hh => hv hh.1)
    rw [(wh_no e).1, (wh_no e).2, e]
    have hne : (Cal.validM F W L == 0) = false := by simpa using hv
    have hne' : (Cal.validM F W L != 0) = true := by simpa using hv
    generalize Cal.validM F W L = V at cV hne hne'
    clear e hv
    go_enter Tryd.func21, Tryd.ntmps21
    go_wp2_with fail
    refine (cV.out _ (H.out _ HB.out)).mono ?_
    rintro e w2 ⟨rfl, hb2⟩
    have HB2 := hid (HB.out.trans (hb2.mono HB.out.size))
    clear hb2
    go_wp2
    go_ret3
    exact ⟨rfl, HB2.out⟩
end Go.Proofs.YtkgindnlllhioaaDoor
