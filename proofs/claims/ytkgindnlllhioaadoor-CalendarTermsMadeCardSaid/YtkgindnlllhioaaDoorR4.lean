/-
  The specification's Days. Conditions: the holidays lie in memory as a slice of ints.
-/
import Derived.Test.YtkgindnlllhioaaDoorR3
import Derived.Test.YtkgindnlllhioaaDoorK6
set_option linter.unusedVariables false
namespace Go.Proofs.YtkgindnlllhioaaDoor
open Go Go.Proofs Go.RowKit Go.Lib

set_option maxHeartbeats 4000000 in
set_option maxRecDepth 100000 in
theorem rdays_any (F W : Int) (A : Option Addr) (L : List Int) (c : Nat) (S D T N : Int) (hS : S ≤ 9223372036854775807) (hl : L.length ≤ 9223372036854775807) (w : World) (h : IntsIn w w.heap.size A L) :
    Calls Tryd.prog 26 #[termV F W A L.length c, timeV S D T N] w (IntsOut (Cal.daysM F W L S D) w) := by
  have cA := hid (fun k w h => rat_any F W A L c k D hl w h)
  obtain ⟨i3, hi3, hz3, hs3, hb3⟩ := info_parts infoInt
  have hB0 : Below w.heap.size w ((w.alloc (.cells #[.int .i64 F, .int .i64 W, .slice A L.length c] 37)).alloc (.cells #[.int .i64 S, .int .i64 D, .int .i64 T, .int .i64 N] 39)) := ((Below.refl _ w).alloc (Nat.le_refl _) _).alloc (by simp) _
  have HB := hid hB0
  have HZ : Hid (((w.alloc (.cells #[.int .i64 F, .int .i64 W, .slice A L.length c] 37)).alloc (.cells #[.int .i64 S, .int .i64 D, .int .i64 T, .int .i64 N] 39)).heap[w.heap.size]? = some (.cells #[.int .i64 F, .int .i64 W, .slice A L.length c] 37 (0, 0))) := hid ((Below.heap_alloc _ _ _ (by simp)).trans (heap_alloc_new w _))
  have HT : Hid (((w.alloc (.cells #[.int .i64 F, .int .i64 W, .slice A L.length c] 37)).alloc (.cells #[.int .i64 S, .int .i64 D, .int .i64 T, .int .i64 N] 39)).heap[w.heap.size + 1]? = some (.cells #[.int .i64 S, .int .i64 D, .int .i64 T, .int .i64 N] 39 (0, 0))) := hid (by have := heap_alloc_new (w.alloc (.cells #[.int .i64 F, .int .i64 W, .slice A L.length c] 37)) (.cells #[.int .i64 S, .int .i64 D, .int .i64 T, .int .i64 N] 39); simpa using this)
  have H : Hid (∀ w' : World, Below w.heap.size w w' → IntsIn w' w'.heap.size A L) := hid (fun w' hb => (h.below hb).mono hb.size)
  clear h hB0
  by_cases hneg : S < 0
  · have e : Cal.daysM F W L S D = [] := if_pos hneg
    rw [e]
    clear e
    go_enter Tryd.func26, Tryd.ntmps26
    go_wp2
    go_ret
    exact ⟨⟨_, rfl, IntRow.nil _ _⟩, HB.out⟩
  · have e : Cal.daysM F W L S D = Cal.daysF F W L S D 20 := if_neg hneg
    rw [e]
    clear e
    have hS0 : 0 ≤ S := by omega
    go_enter Tryd.func26, Tryd.ntmps26
    go_wp2
    generalize (w.alloc (.cells #[.int .i64 F, .int .i64 W, .slice A L.length c] 37)).alloc (.cells #[.int .i64 S, .int .i64 D, .int .i64 T, .int .i64 N] 39) = w1 at HZ HT HB ⊢
    go_loopw [5, 6] (fun v iv wr => ∃ k : Nat, iv = .int .i64 ((k : Int) + 1) ∧ k ≤ 20 ∧ IntRow wr w.heap.size v (Cal.daysF F W L S D k) ∧ Hid (wr.heap[w.heap.size]? = some (.cells #[.int .i64 F, .int .i64 W, .slice A L.length c] 37 (0, 0))) ∧ Hid (wr.heap[w.heap.size + 1]? = some (.cells #[.int .i64 S, .int .i64 D, .int .i64 T, .int .i64 N] 39 (0, 0))) ∧ Hid (Below w.heap.size w wr)) (fun _ iv _ => 21 - (RowKit.intOf iv).toNat)
    case atStart => exact ⟨0, rfl, by omega, IntRow.nil _ _, HZ, HT, HB⟩
    case round =>
      obtain ⟨k, rfl, hk, hrow, hZ, hT, hB⟩ := hrel
      have HRow := hid hrow
      clear hrow
      by_cases hlt : k < 20
      · have hltz : (k : Int) + 1 ≤ 20 := by omega
        obtain ⟨z0, z1, z2⟩ := zz_of hZ.out
        obtain ⟨t0, t1⟩ := t_of hT.out
        cases hbit : Cal.bitB S k with
        | false =>
          have hb0 := bit_no hS0 hS hbit
          have hnx := hid (Cal.daysF_no (F := F) (W := W) (L := L) (d := D) (.inl hbit))
          clear hbit
          go_wp2
          go_roundw
          case rel => exact ⟨k + 1, by simp, by omega, by rw [hnx.out]; exact HRow.out, hZ, hT, hB⟩
          case measure => simp [RowKit.intOf]; omega
        | true =>
          have hb1 := bit_yes hS0 hS hbit
          have hlz : w.heap.size < wr.heap.size := (Array.getElem?_eq_some_iff.1 hZ.out).1
          have hlt1 : w.heap.size + 1 < wr.heap.size := (Array.getElem?_eq_some_iff.1 hT.out).1
          go_wp2_with fail
          refine (cA.out _ _ (H.out _ hB.out)).mono ?_
          rintro e w2 ⟨rfl, hb2⟩
          have HB2 := hid (hB.out.trans (hb2.mono hB.out.size))
          have HZ2 := hid ((hb2.block _ hlz).trans hZ.out)
          have HT2 := hid ((hb2.block _ hlt1).trans hT.out)
          have HRow2 : Hid (IntRow w2 w.heap.size _ (Cal.daysF F W L S D k)) := hid (row_under HRow.out hb2)
          clear hb2 z0 z1 z2 t0 t1 hlz hlt1
          cases hat : Cal.atB F W L (k + 1) D with
          | false =>
            have hnx := hid (Cal.daysF_no (F := F) (W := W) (L := L) (d := D) (S := S) (.inr hat))
            clear hat hbit
            go_wp2
            go_roundw
            case rel => exact ⟨k + 1, by simp, by omega, by rw [hnx.out]; exact HRow2.out, HZ2, HT2, HB2⟩
            case measure => simp [RowKit.intOf]; omega
          | true =>
            have hnx := hid (Cal.daysF_yes (F := F) (W := W) (L := L) (d := D) hbit hat)
            have hlen := Cal.daysF_len F W L S D k
            have HL := hid hlen
            have HC3 : Hid ((Cal.daysF F W L S D k).length + 1 ≤ maxLen) := by unfold maxLen; exact hid (by omega)
            have HC4 : Hid (((Cal.daysF F W L S D k).length + 1) * 8 ≤ 140737488355328) := hid (by omega)
            have HC5 : Hid (∀ o : Obj, w.heap.size ≤ (w2.alloc o).heap.size) := hid (fun o => by have := HB2.out.size; simp; omega)
            clear hat hbit hlen
            go_wp2_with (at_builtin; refine wpList_append_own _ rfl _ _ 35 rfl w.heap.size 3 i3 (.int .i64 0) 1 8 Tryd.underlying35 hi3 hz3 hs3 hb3 rfl (by decide) _ (Cal.daysF F W L S D k).length (intVals (Cal.daysF F W L S D k)) rfl (World.ownsRow.alloc HRow2.out _) ⟨w2.heap.size, 0, none⟩ 1 1 [.int .i64 (Cal.atM F W L (k + 1) D)] rfl rfl (one_new _ _ _) (one_one _ _) HC3.out HC4.out (HC5.out _) ?_)
            intro v' w6 hown' hgrow _
            have hg' := grownBy_of_alloc hgrow
            have hb56 : Below w.heap.size w2 w6 := (Below.refl _ w2).grown hg' HB2.out.size (fun k hk => (World.ownsRow.lt HRow2.out k hk).1)
            have hne : ∀ (g : Nat) (cs : Array Value) (t : TypeId), w2.heap[g]? = some (.cells cs t (0, 0)) → t ≠ 3 → w6.heap[g]? = some (.cells cs t (0, 0)) := by
              intro g cs t hg ht
              refine (hg'.block _ (Array.getElem?_eq_some_iff.1 hg).1 ?_).trans hg
              intro e
              obtain ⟨cc, hcc⟩ := row_kind HRow2.out _ e.symm
              rw [hg] at hcc
              injection hcc with hcc
              injection hcc with _ h2 _
              exact ht h2
            have HZ6 := hid (hne _ _ _ HZ2.out (by decide))
            have HT6 := hid (hne _ _ _ HT2.out (by decide))
            have HB6 := hid (HB2.out.trans hb56)
            have HRow6 := hid hown'
            clear hown' hgrow hg' hb56 hne
            go_wp2
            go_roundw
            case rel =>
              refine ⟨k + 1, by simp, by omega, ?_, HZ6, HT6, HB6⟩
              rw [hnx.out]
              unfold IntRow
              rw [intVals_app, List.length_append]
              exact HRow6.out
            case measure => simp [RowKit.intOf]; omega
      · have hltz : ¬ (k : Int) + 1 ≤ 20 := by omega
        obtain rfl : k = 20 := by omega
        go_wp2
        go_ret
        exact ⟨⟨_, rfl, HRow.out⟩, hB.out⟩
end Go.Proofs.YtkgindnlllhioaaDoor
