/-
  How two times of the week stand to each other, and when a slot begins: Between, Overlap, Before, Clock of timegrid. Conditions: the starts are numbers of 64 bits.
  DERIVED: THE SHELF's CONTRACTS AT THIS DUMP, IN PLAIN WORDS (tools/lay-plain.mjs out of 'TryzShelfS.lean', which tools/lay-shelf.mjs wrote): THE SAME DECLARATIONS UNDER THE SAME NAMES: 'import', 'namespace', 'open', 'def', 'theorem' AND NOTHING ELSE: no command of the shelf's: FOR A HAND-IN. Each laying: the table of numbers ('.._ren') and one theorem, a field a fact of the dump's own or the kernel's comparison; each contract: ONE APPLICATION.
  A predicate on times, asked of a list of them (slices.ContainsFunc): which do not fit, which overlap another one. Conditions: the times lie in memory.
  A room alone: check of roomfile. Conditions: the room's lists lie in memory.
-/
import Derived.Test.YteckefolakjafaaGreatDoorBR09
import Derived.Test.YteckefolakjafaaGreatDoorProg
import Derived.Test.YteckefolakjafaaGreatDoorBR20
import Derived.Test.YteckefolakjafaaGreatDoorBR15
import Derived.Test.YteckefolakjafaaGreatDoorBR34
import Derived.Shelf.SlGeneric
import Derived.Shelf.SlicesQ.IndexFunc
set_option linter.unusedVariables false
namespace Go.Proofs.YteckefolakjafaaGreatDoor
open Go Go.Proofs Go.RowKit Go.Lib

theorem meet_no {k y t l k' y' t' l' : Int} (h : ¬ (soundB k y t l = true ∧ soundB k' y' t' l' = true ∧ bits .and .i64 k k' ≠ 0 ∧ y = y')) : betM k y t l k' y' t' l' = (0, false) := by
  unfold betM
  rw [show meetB k y t l k' y' t' l' = false from decide_eq_false h, if_neg (by simp)]
theorem meet_yes {k y t l k' y' t' l' : Int} (h : soundB k y t l = true ∧ soundB k' y' t' l' = true ∧ bits .and .i64 k k' ≠ 0 ∧ y = y') : betM k y t l k' y' t' l' = (gapI t l t' l', true) := by
  unfold betM
  rw [show meetB k y t l k' y' t' l' = true from decide_eq_true h, if_pos rfl]
set_option maxHeartbeats 8000000 in
set_option maxRecDepth 100000 in
theorem between_any (k y t l k' y' t' l' : Int) (ht : t ≤ 9223372036854775807) (ht' : t' ≤ 9223372036854775807) (w : World) :
    Calls Tryz.prog 74 #[.agg #[.int .i64 k, .int .i64 y, .int .i64 t, .int .i64 l], .agg #[.int .i64 k', .int .i64 y', .int .i64 t', .int .i64 l']] w (Says (.tuple #[.int .i64 (betM k y t l k' y' t' l').1, .bool (betM k y t l k' y' t' l').2]) w) := by
  have cS := fun w => sound_any k y t l ht w
  have cS2 := fun w => sound_any k' y' t' l' ht' w
  unfold Says at cS cS2 ⊢
  cases hs : soundB k y t l with
  | false =>
    rw [meet_no (fun h => by rw [hs] at h; exact absurd h.1 (by simp))]
    rw [hs] at cS
    clear hs cS2
    have hk := K2.first w k y t l k' y' t' l' 55 55
    have HK := hid hk
    clear hk
    go_enter Tryz.func74, Tryz.ntmps74
    go_wp2_with fail
    refine (cS _).mono ?_
    rintro e w1 ⟨rfl, hb⟩
    have hk := HK.out.next hb
    clear hb HK
    obtain ⟨⟨x0, x1, x2, x3, _⟩, ⟨y0, y1, y2, y3, _⟩, _⟩ := id hk
    go_wp2
    go_ret2
    exact ⟨rfl, hk.b⟩
  | true =>
    rw [hs] at cS
    cases hs2 : soundB k' y' t' l' with
    | false =>
      rw [meet_no (fun h => by rw [hs2] at h; exact absurd h.2.1 (by simp))]
      rw [hs2] at cS2
      clear hs hs2
      have hk := K2.first w k y t l k' y' t' l' 55 55
      have HK := hid hk
      clear hk
      go_enter Tryz.func74, Tryz.ntmps74
      go_wp2_with fail
      refine (cS _).mono ?_
      rintro e w1 ⟨rfl, hb⟩
      have hk := HK.out.next hb
      clear hb HK
      obtain ⟨⟨x0, x1, x2, x3, _⟩, ⟨y0, y1, y2, y3, _⟩, _⟩ := id hk
      go_wp2_with fail
      refine (cS2 _).mono ?_
      rintro e w1 ⟨rfl, hb⟩
      have hk := hk.next hb
      clear hb
      obtain ⟨⟨x0, x1, x2, x3, _⟩, ⟨y0, y1, y2, y3, _⟩, _⟩ := id hk
      go_wp2
      go_ret2
      exact ⟨rfl, hk.b⟩
    | true =>
      rw [hs2] at cS2
      by_cases hw : bits .and .i64 k k' = 0
      · rw [meet_no (fun h => h.2.2.1 hw)]
        clear hs hs2
        have hk := K2.first w k y t l k' y' t' l' 55 55
        have HK := hid hk
        clear hk
        go_enter Tryz.func74, Tryz.ntmps74
        go_wp2_with fail
        refine (cS _).mono ?_
        rintro e w1 ⟨rfl, hb⟩
        have hk := HK.out.next hb
        clear hb HK
        obtain ⟨⟨x0, x1, x2, x3, _⟩, ⟨y0, y1, y2, y3, _⟩, _⟩ := id hk
        go_wp2_with fail
        refine (cS2 _).mono ?_
        rintro e w1 ⟨rfl, hb⟩
        have hk := hk.next hb
        clear hb
        obtain ⟨⟨x0, x1, x2, x3, _⟩, ⟨y0, y1, y2, y3, _⟩, _⟩ := id hk
        go_wp2
        go_ret2
        exact ⟨rfl, hk.b⟩
      · have hw' : (bits .and .i64 k k' == 0) = false := by simpa using hw
        by_cases hy : y = y'
        · rw [meet_yes ⟨hs, hs2, hw, hy⟩]
          have hyd : (y != y') = false := by simpa using hy
          clear hy
          obtain ⟨s1, s2, s3, s4, s5⟩ := sound_of hs
          obtain ⟨r1, r2, r3, r4, r5⟩ := sound_of hs2
          have cE := fun w => endOf_any k y t l s3 (by omega) (by omega) (by omega) w
          have cE2 := fun w => endOf_any k' y' t' l' r3 (by omega) (by omega) (by omega) w
          unfold Says at cE cE2
          clear hs hs2 hw
          have four : ∃ D, max t t' - min (t + l) (t' + l') = D ∧ gapI t l t' l' = max D (-1) ∧ IntKind.i64.wrap D = D := by
            refine ⟨_, rfl, rfl, IntWalk.i64_in _ ?_⟩
            omega
          obtain ⟨D, hD, hG, hWD⟩ := four
          rw [hG]
          have hk := K2.first w k y t l k' y' t' l' 55 55
          have HK := hid hk
          clear hk
          go_enter Tryz.func74, Tryz.ntmps74
          go_wp2_with fail
          refine (cS _).mono ?_
          rintro e w1 ⟨rfl, hb⟩
          have hk := HK.out.next hb
          clear hb HK
          obtain ⟨⟨x0, x1, x2, x3, _⟩, ⟨y0, y1, y2, y3, _⟩, _⟩ := id hk
          go_wp2_with fail
          refine (cS2 _).mono ?_
          rintro e w1 ⟨rfl, hb⟩
          have hk := hk.next hb
          clear hb
          obtain ⟨⟨x0, x1, x2, x3, _⟩, ⟨y0, y1, y2, y3, _⟩, _⟩ := id hk
          go_wp2_with fail
          clear x0 x1 x2 x3 y0 y1 y2 y3
          refine wp_region_held_drew (S := K2 w k y t l k' y' t' l') (by kernel_rfl) hk.drew (fun hHeld => ?_)
          first
            | (refine wpAnyH_take (i := 0) (oi := _) (v := undef) rfl (by kernel_rfl) (by kernel_rfl) (by kernel_rfl) (fun _ _ _ h => h) (Or.inr ⟨by rfl, rfl⟩) (by assumption) ?_)
            | (refine wpAnyH_take (i := 0) (oi := _) (v := ?_) rfl (by kernel_rfl) (by kernel_rfl) (by kernel_rfl) (fun _ _ _ h => h) (Or.inl ⟨by rfl, ?_⟩) (by assumption) ?_; rotate_left; (intro wS hSw; obtain ⟨⟨x0, x1, x2, x3, _⟩, ⟨y0, y1, y2, y3, _⟩, _⟩ := hSw; (try simp only [List.getElem_toArray, List.getElem_cons_zero]); go_simp; (try with_reducible rfl)))
          try simp only [List.getElem_toArray, List.getElem_cons_zero, Act.put, List.setIfInBounds_toArray, List.set_cons_zero, List.set_cons_succ]
          first
            | (refine wpAnyH_take (i := 1) (oi := _) (v := undef) rfl (by kernel_rfl) (by kernel_rfl) (by kernel_rfl) (fun _ _ _ h => h) (Or.inr ⟨by rfl, rfl⟩) (by assumption) ?_)
            | (refine wpAnyH_take (i := 1) (oi := _) (v := ?_) rfl (by kernel_rfl) (by kernel_rfl) (by kernel_rfl) (fun _ _ _ h => h) (Or.inl ⟨by rfl, ?_⟩) (by assumption) ?_; rotate_left; (intro wS hSw; obtain ⟨⟨x0, x1, x2, x3, _⟩, ⟨y0, y1, y2, y3, _⟩, _⟩ := hSw; (try simp only [List.getElem_toArray, List.getElem_cons_succ, List.getElem_cons_zero]); go_simp; (try with_reducible rfl)))
          try simp only [List.getElem_toArray, List.getElem_cons_succ, List.getElem_cons_zero, Act.put, List.setIfInBounds_toArray, List.set_cons_zero, List.set_cons_succ]
          first
            | (refine wpAnyH_take (i := 2) (oi := _) (v := undef) rfl (by kernel_rfl) (by kernel_rfl) (by kernel_rfl) (fun _ _ _ h => h) (Or.inr ⟨by rfl, rfl⟩) (by assumption) ?_)
            | (refine wpAnyH_take (i := 2) (oi := _) (v := ?_) rfl (by kernel_rfl) (by kernel_rfl) (by kernel_rfl) (fun _ _ _ h => h) (Or.inl ⟨by rfl, ?_⟩) (by assumption) ?_; rotate_left; (intro wS hSw; obtain ⟨⟨x0, x1, x2, x3, _⟩, ⟨y0, y1, y2, y3, _⟩, _⟩ := hSw; (try simp only [List.getElem_toArray, List.getElem_cons_succ, List.getElem_cons_zero]); go_simp; (try with_reducible rfl)))
          try simp only [List.getElem_toArray, List.getElem_cons_succ, List.getElem_cons_zero, Act.put, List.setIfInBounds_toArray, List.set_cons_zero, List.set_cons_succ]
          first
            | (refine wpAnyH_take (i := 3) (oi := _) (v := undef) rfl (by kernel_rfl) (by kernel_rfl) (by kernel_rfl) (fun _ _ _ h => h) (Or.inr ⟨by rfl, rfl⟩) (by assumption) ?_)
            | (refine wpAnyH_take (i := 3) (oi := _) (v := ?_) rfl (by kernel_rfl) (by kernel_rfl) (by kernel_rfl) (fun _ _ _ h => h) (Or.inl ⟨by rfl, ?_⟩) (by assumption) ?_; rotate_left; (intro wS hSw; obtain ⟨⟨x0, x1, x2, x3, _⟩, ⟨y0, y1, y2, y3, _⟩, _⟩ := hSw; (try simp only [List.getElem_toArray, List.getElem_cons_succ, List.getElem_cons_zero]); go_simp; (try with_reducible rfl)))
          try simp only [List.getElem_toArray, List.getElem_cons_succ, List.getElem_cons_zero, Act.put, List.setIfInBounds_toArray, List.set_cons_zero, List.set_cons_succ]
          first
            | (refine wpAnyH_take (i := 4) (oi := _) (v := undef) rfl (by kernel_rfl) (by kernel_rfl) (by kernel_rfl) (fun _ _ _ h => h) (Or.inr ⟨by rfl, rfl⟩) (by assumption) ?_)
            | (refine wpAnyH_take (i := 4) (oi := _) (v := ?_) rfl (by kernel_rfl) (by kernel_rfl) (by kernel_rfl) (fun _ _ _ h => h) (Or.inl ⟨by rfl, ?_⟩) (by assumption) ?_; rotate_left; (intro wS hSw; obtain ⟨⟨x0, x1, x2, x3, _⟩, ⟨y0, y1, y2, y3, _⟩, _⟩ := hSw; (try simp only [List.getElem_toArray, List.getElem_cons_succ, List.getElem_cons_zero]); go_simp; (try with_reducible rfl)))
          try simp only [List.getElem_toArray, List.getElem_cons_succ, List.getElem_cons_zero, Act.put, List.setIfInBounds_toArray, List.set_cons_zero, List.set_cons_succ]
          first
            | (refine wpAnyH_take (i := 5) (oi := _) (v := undef) rfl (by kernel_rfl) (by kernel_rfl) (by kernel_rfl) (fun _ _ _ h => h) (Or.inr ⟨by rfl, rfl⟩) (by assumption) ?_)
            | (refine wpAnyH_take (i := 5) (oi := _) (v := ?_) rfl (by kernel_rfl) (by kernel_rfl) (by kernel_rfl) (fun _ _ _ h => h) (Or.inl ⟨by rfl, ?_⟩) (by assumption) ?_; rotate_left; (intro wS hSw; obtain ⟨⟨x0, x1, x2, x3, _⟩, ⟨y0, y1, y2, y3, _⟩, _⟩ := hSw; (try simp only [List.getElem_toArray, List.getElem_cons_succ, List.getElem_cons_zero]); go_simp; (try with_reducible rfl)))
          try simp only [List.getElem_toArray, List.getElem_cons_succ, List.getElem_cons_zero, Act.put, List.setIfInBounds_toArray, List.set_cons_zero, List.set_cons_succ]
          first
            | (refine wpAnyH_take (i := 7) (oi := _) (v := undef) rfl (by kernel_rfl) (by kernel_rfl) (by kernel_rfl) (fun _ _ _ h => h) (Or.inr ⟨by rfl, rfl⟩) (by assumption) ?_)
            | (refine wpAnyH_take (i := 7) (oi := _) (v := ?_) rfl (by kernel_rfl) (by kernel_rfl) (by kernel_rfl) (fun _ _ _ h => h) (Or.inl ⟨by rfl, ?_⟩) (by assumption) ?_; rotate_left; (intro wS hSw; obtain ⟨⟨x0, x1, x2, x3, _⟩, ⟨y0, y1, y2, y3, _⟩, _⟩ := hSw; (try simp only [List.getElem_toArray, List.getElem_cons_succ, List.getElem_cons_zero]); go_simp; (try with_reducible rfl)))
          try simp only [List.getElem_toArray, List.getElem_cons_succ, List.getElem_cons_zero, Act.put, List.setIfInBounds_toArray, List.set_cons_zero, List.set_cons_succ]
          first
            | (refine wpAnyH_take (i := 6) (oi := _) (v := undef) rfl (by kernel_rfl) (by kernel_rfl) (by kernel_rfl) (fun _ _ _ h => h) (Or.inr ⟨by rfl, rfl⟩) (by assumption) ?_)
            | (refine wpAnyH_ready (rs := [6]) (by kernel_rfl) (by simp) ?_; refine AllReadyH.cons (o := _) rfl (fun K hK => ?_) AllReadyH.nil; (try simp only [List.getElem_toArray, List.getElem_cons_succ, List.getElem_cons_zero]); go_simp; go_at_call 80; refine (cE _).mono ?_; rintro e w1 ⟨rfl, hb⟩; have hk2 := hHeld.next hb; clear hb hHeld; have hHeld := hk2; clear hk2; skip; go_wp2_with fail; refine hK.out _ _ hHeld (fun hHeld => ?_); clear hK K)
          try simp only [List.getElem_toArray, List.getElem_cons_succ, List.getElem_cons_zero, Act.put, List.setIfInBounds_toArray, List.set_cons_zero, List.set_cons_succ]
          first
            | (refine wpAnyH_take (i := 8) (oi := _) (v := undef) rfl (by kernel_rfl) (by kernel_rfl) (by kernel_rfl) (fun _ _ _ h => h) (Or.inr ⟨by rfl, rfl⟩) (by assumption) ?_)
            | (refine wpAnyH_ready (rs := [8]) (by kernel_rfl) (by simp) ?_; refine AllReadyH.cons (o := _) rfl (fun K hK => ?_) AllReadyH.nil; (try simp only [List.getElem_toArray, List.getElem_cons_succ, List.getElem_cons_zero]); go_simp; go_at_call 80; refine (cE2 _).mono ?_; rintro e w1 ⟨rfl, hb⟩; have hk2 := hHeld.next hb; clear hb hHeld; have hHeld := hk2; clear hk2; skip; go_wp2_with fail; refine hK.out _ _ hHeld (fun hHeld => ?_); clear hK K)
          try simp only [List.getElem_toArray, List.getElem_cons_succ, List.getElem_cons_zero, Act.put, List.setIfInBounds_toArray, List.set_cons_zero, List.set_cons_succ]
          first
            | (refine wpAnyH_take (i := 9) (oi := _) (v := undef) rfl (by kernel_rfl) (by kernel_rfl) (by kernel_rfl) (fun _ _ _ h => h) (Or.inr ⟨by rfl, rfl⟩) (by assumption) ?_)
            | (refine wpAnyH_take (i := 9) (oi := _) (v := ?_) rfl (by kernel_rfl) (by kernel_rfl) (by kernel_rfl) (fun _ _ _ h => h) (Or.inl ⟨by rfl, ?_⟩) (by assumption) ?_; rotate_left; (intro wS hSw; obtain ⟨⟨x0, x1, x2, x3, _⟩, ⟨y0, y1, y2, y3, _⟩, _⟩ := hSw; (try simp only [List.getElem_toArray, List.getElem_cons_succ, List.getElem_cons_zero]); go_simp; (try with_reducible rfl)))
          try simp only [List.getElem_toArray, List.getElem_cons_succ, List.getElem_cons_zero, Act.put, List.setIfInBounds_toArray, List.set_cons_zero, List.set_cons_succ]
          first
            | (refine wpAnyH_take (i := 10) (oi := _) (v := undef) rfl (by kernel_rfl) (by kernel_rfl) (by kernel_rfl) (fun _ _ _ h => h) (Or.inr ⟨by rfl, rfl⟩) (by assumption) ?_)
            | (refine wpAnyH_take (i := 10) (oi := _) (v := ?_) rfl (by kernel_rfl) (by kernel_rfl) (by kernel_rfl) (fun _ _ _ h => h) (Or.inl ⟨by rfl, ?_⟩) (by assumption) ?_; rotate_left; (intro wS hSw; obtain ⟨⟨x0, x1, x2, x3, _⟩, ⟨y0, y1, y2, y3, _⟩, _⟩ := hSw; (try simp only [List.getElem_toArray, List.getElem_cons_succ, List.getElem_cons_zero]); go_simp; (try with_reducible rfl)))
          try simp only [List.getElem_toArray, List.getElem_cons_succ, List.getElem_cons_zero, Act.put, List.setIfInBounds_toArray, List.set_cons_zero, List.set_cons_succ]
          first
            | (refine wpAnyH_take (i := 11) (oi := _) (v := undef) rfl (by kernel_rfl) (by kernel_rfl) (by kernel_rfl) (fun _ _ _ h => h) (Or.inr ⟨by rfl, rfl⟩) (by assumption) ?_)
            | (refine wpAnyH_take (i := 11) (oi := _) (v := ?_) rfl (by kernel_rfl) (by kernel_rfl) (by kernel_rfl) (fun _ _ _ h => h) (Or.inl ⟨by rfl, ?_⟩) (by assumption) ?_; rotate_left; (intro wS hSw; obtain ⟨⟨x0, x1, x2, x3, _⟩, ⟨y0, y1, y2, y3, _⟩, _⟩ := hSw; (try simp only [List.getElem_toArray, List.getElem_cons_succ, List.getElem_cons_zero]); go_simp; (try with_reducible rfl)))
          try simp only [List.getElem_toArray, List.getElem_cons_succ, List.getElem_cons_zero, Act.put, List.setIfInBounds_toArray, List.set_cons_zero, List.set_cons_succ]
          first
            | (refine wpAnyH_take (i := 12) (oi := _) (v := undef) rfl (by kernel_rfl) (by kernel_rfl) (by kernel_rfl) (fun _ _ _ h => h) (Or.inr ⟨by rfl, rfl⟩) (by assumption) ?_)
            | (refine wpAnyH_take (i := 12) (oi := _) (v := ?_) rfl (by kernel_rfl) (by kernel_rfl) (by kernel_rfl) (fun _ _ _ h => h) (Or.inl ⟨by rfl, ?_⟩) (by assumption) ?_; rotate_left; (intro wS hSw; obtain ⟨⟨x0, x1, x2, x3, _⟩, ⟨y0, y1, y2, y3, _⟩, _⟩ := hSw; (try simp only [List.getElem_toArray, List.getElem_cons_succ, List.getElem_cons_zero]); go_simp; (try with_reducible rfl)))
          try simp only [List.getElem_toArray, List.getElem_cons_succ, List.getElem_cons_zero, Act.put, List.setIfInBounds_toArray, List.set_cons_zero, List.set_cons_succ]
          first
            | (refine wpAnyH_take (i := 13) (oi := _) (v := undef) rfl (by kernel_rfl) (by kernel_rfl) (by kernel_rfl) (fun _ _ _ h => h) (Or.inr ⟨by rfl, rfl⟩) (by assumption) ?_)
            | (refine wpAnyH_take (i := 13) (oi := _) (v := ?_) rfl (by kernel_rfl) (by kernel_rfl) (by kernel_rfl) (fun _ _ _ h => h) (Or.inl ⟨by rfl, ?_⟩) (by assumption) ?_; rotate_left; (intro wS hSw; obtain ⟨⟨x0, x1, x2, x3, _⟩, ⟨y0, y1, y2, y3, _⟩, _⟩ := hSw; (try simp only [List.getElem_toArray, List.getElem_cons_succ, List.getElem_cons_zero]); go_simp; (try with_reducible rfl)))
          try simp only [List.getElem_toArray, List.getElem_cons_succ, List.getElem_cons_zero, Act.put, List.setIfInBounds_toArray, List.set_cons_zero, List.set_cons_succ]
          refine wpAnyH_done (by kernel_rfl) ?_ _
          go_wp2
          go_ret2
          exact ⟨rfl, hHeld.b⟩
        · rw [meet_no (fun h => hy h.2.2.2)]
          have hy' : (y != y') = true := by simpa using hy
          clear hs hs2 hw
          have hk := K2.first w k y t l k' y' t' l' 55 55
          have HK := hid hk
          clear hk
          go_enter Tryz.func74, Tryz.ntmps74
          go_wp2_with fail
          refine (cS _).mono ?_
          rintro e w1 ⟨rfl, hb⟩
          have hk := HK.out.next hb
          clear hb HK
          obtain ⟨⟨x0, x1, x2, x3, _⟩, ⟨y0, y1, y2, y3, _⟩, _⟩ := id hk
          go_wp2_with fail
          refine (cS2 _).mono ?_
          rintro e w1 ⟨rfl, hb⟩
          have hk := hk.next hb
          clear hb
          obtain ⟨⟨x0, x1, x2, x3, _⟩, ⟨y0, y1, y2, y3, _⟩, _⟩ := id hk
          go_wp2
          go_ret2
          exact ⟨rfl, hk.b⟩
set_option maxHeartbeats 2000000 in
theorem overlap_any (k y t l k' y' t' l' : Int) (ht : t ≤ 9223372036854775807) (ht' : t' ≤ 9223372036854775807) (w : World) :
    Calls Tryz.prog 42 #[.agg #[.int .i64 k, .int .i64 y, .int .i64 t, .int .i64 l], .agg #[.int .i64 k', .int .i64 y', .int .i64 t', .int .i64 l']] w (Says (.bool (overB k y t l k' y' t' l')) w) := by
  have cB := fun w => between_any k y t l k' y' t' l' ht ht' w
  unfold Says overB at *
  generalize betM k y t l k' y' t' l' = R at cB ⊢
  obtain ⟨N, O⟩ := R
  dsimp only at cB ⊢
  cases O with
  | false =>
    have hk := K2.first w k y t l k' y' t' l' 55 55
    have HK := hid hk
    clear hk
    go_enter Tryz.func42, Tryz.ntmps42
    go_wp2_with fail
    refine (cB _).mono ?_
    rintro e w1 ⟨rfl, hb⟩
    have hk := HK.out.next hb
    clear hb HK
    go_wp2
    go_ret
    exact ⟨rfl, hk.b⟩
  | true =>
    rw [Bool.true_and]
    by_cases hn : N < 0
    · have hnd : decide (N < 0) = true := decide_eq_true hn
      rw [hnd]
      have hk := K2.first w k y t l k' y' t' l' 55 55
      have HK := hid hk
      clear hk
      go_enter Tryz.func42, Tryz.ntmps42
      go_wp2_with fail
      refine (cB _).mono ?_
      rintro e w1 ⟨rfl, hb⟩
      have hk := HK.out.next hb
      clear hb HK
      go_wp2
      go_ret
      exact ⟨rfl, hk.b⟩
    · have hnd : decide (N < 0) = false := decide_eq_false hn
      rw [hnd]
      have hk := K2.first w k y t l k' y' t' l' 55 55
      have HK := hid hk
      clear hk
      go_enter Tryz.func42, Tryz.ntmps42
      go_wp2_with fail
      refine (cB _).mono ?_
      rintro e w1 ⟨rfl, hb⟩
      have hk := HK.out.next hb
      clear hb HK
      go_wp2
      go_ret
      exact ⟨rfl, hk.b⟩
end Go.Proofs.YteckefolakjafaaGreatDoor

namespace Go.Proofs
open Go.Shelf
def Tryz.laysContainsF_ren : Go.Shelf.Ren := ⟨fun | 8 => 43 | 6 => 75 | n => n, fun | 22 => 44 | 23 => 55 | 25 => 83 | 4 => 4 | 3 => 3 | 0 => 0 | n => n, fun | n => n⟩
theorem Tryz.laysContainsF : Go.Proofs.SlLaysH0.n8 Tryz.prog Tryz.laysContainsF_ren := {
  mixed := by kernel_rfl
  f6 := ⟨Tryz.f75.name, by decide, Tryz.func75.trans (congrArg some (by kernel_rfl))⟩
  f8 := ⟨Tryz.f43.name, by decide, Tryz.func43.trans (congrArg some (by kernel_rfl))⟩
  t0 := Tryz.underlying0
  a0 := Tryz.isAgg0
  z0 := Tryz.sizeOf0
  v0 := Tryz.zeroValue0
  t3 := Tryz.underlying3
  a3 := Tryz.isAgg3
  z3 := Tryz.sizeOf3
  v3 := Tryz.zeroValue3
  t4 := Tryz.underlying4
  a4 := Tryz.isAgg4
  z4 := Tryz.sizeOf4
  v4 := Tryz.zeroValue4
  t22 := Tryz.underlying44
  a22 := Tryz.isAgg44
  z22 := Tryz.sizeOf44
  v22 := Tryz.zeroValue44
  t25 := Tryz.underlying83
  a25 := Tryz.isAgg83
  z25 := Tryz.sizeOf83
  v25 := Tryz.zeroValue83 }
end Go.Proofs

set_option linter.unusedVariables false
namespace Go.Proofs.YteckefolakjafaaGreatDoor
open Go Go.Proofs Go.RowKit Go.Lib

abbrev TimeF := {t : TimeD // t.2.2.1 ≤ 9223372036854775807}
instance instTimeF : Inhabited TimeF := ⟨⟨(0, 0, 0, 0), by decide⟩⟩
def encT (x : TimeF) : List Value := timeVs x.1
def listF (l : List TimeD) (h : ∀ t ∈ l, t.2.2.1 ≤ 9223372036854775807) : List TimeF := l.pmap (fun t ht => ⟨t, ht⟩) h
theorem listF_len (l : List TimeD) (h) : (listF l h).length = l.length := List.length_pmap
theorem listF_any (l : List TimeD) (h) (p : TimeD → Bool) : (listF l h).any (fun x => p x.1) = l.any p := by
  induction l with
  | nil => rfl
  | cons a r ih =>
    have := ih (fun t ht => h t (by simp [ht]))
    simp only [listF, List.pmap, List.any_cons] at this ⊢
    rw [this]

set_option maxHeartbeats 1000000 in
/-- ContainsFunc of no times. -/
theorem anyT_nil (A : Option Addr) (c : Nat) (f : Value) (w : World) : Calls Tryz.prog 43 #[.slice A 0 c, f] w fun e w' => e = .returned (.bool false) ∧ Below w.heap.size w w' := by
  have cI : ∀ w, Calls Tryz.prog 75 #[.slice A 0 c, f] w fun e w' => e = .returned (.int .i64 (-1)) ∧ w = w' := fun w => by
    go_enter Tryz.func75, Tryz.ntmps75
    go_wp2
    go_loop [5, 8] (fun _ iv => iv = .int .i64 0) (fun _ _ => 0)
    case atStart => rfl
    case round =>
      subst hrel
      go_wp2
      go_ret
      exact ⟨rfl, rfl⟩
  go_enter Tryz.func43, Tryz.ntmps43
  go_wp2_with fail
  refine (cI _).mono ?_
  rintro e w' ⟨rfl, rfl⟩
  go_wp2
  go_ret
  exact ⟨rfl, Below.refl _ _⟩

theorem egUnfit : ∀ args w, (callFunc 45 args).run Tryz.prog w = .ok (.enter 45 args) w := enters_of Tryz.func45 (by kernel_rfl) rfl
theorem egOpen : ∀ args w, (callFunc 41 args).run Tryz.prog w = .ok (.enter 41 args) w := enters_of Tryz.func41 (by kernel_rfl) rfl
set_option maxHeartbeats 2000000 in
/-- The program's closure that tells which times do not fit. -/
theorem pred_unfit (d s b m n : Int) (G N : Nat) (w : World) (hG : Box4 w G d s b m) (hN : w.cell? ⟨N, 0, none⟩ = some (.int .i64 n)) (hNl : N < w.heap.size) :
    PredBelow Tryz.prog 45 #[.pointer (some ⟨G, 0, none⟩), .pointer (some ⟨N, 0, none⟩)] (fun x : TimeF => .agg (encT x).toArray) (fun x => unfitB d s b m n x.1) w := fun W x hb => by
  obtain ⟨⟨k, y, t, l⟩, ht⟩ := x
  have cF := fun w => fits_any d s b m n k y t l ht w
  unfold Says at cF
  have hGl := hG.lt
  have hG' := hG.next hb hGl
  have hN' : W.cell? ⟨N, 0, none⟩ = some (.int .i64 n) := (hb.cell (p := ⟨N, 0, none⟩) hNl).trans hN
  obtain ⟨x0, x1, x2, x3, _⟩ := hG'
  have hsW := hb.size
  have hGW : G ≠ W.heap.size := by omega
  have hNW : N ≠ W.heap.size := by omega
  show Calls Tryz.prog 45 #[.agg #[.int .i64 k, .int .i64 y, .int .i64 t, .int .i64 l], .pointer (some ⟨G, 0, none⟩), .pointer (some ⟨N, 0, none⟩)] W _
  show Calls _ _ _ _ fun e w' => e = .returned (.bool (decide (fitsM d s b m n k y t l ≠ 0))) ∧ _
  obtain ⟨F, hF⟩ : ∃ F, fitsM d s b m n k y t l = F := ⟨_, rfl⟩
  rw [hF] at cF ⊢
  have hn1 : (W.alloc (.cells #[.int .i64 k, .int .i64 y, .int .i64 t, .int .i64 l] 55)).cell? ⟨N, 0, none⟩ = some (.int .i64 n) := Lib.cell?_alloc_some _ hN'
  have HB := hid (hb.alloc hb.size (.cells #[.int .i64 k, .int .i64 y, .int .i64 t, .int .i64 l] 55))
  clear hb hF hG hN
  by_cases h0 : F = 0
  · subst h0
    go_enter Tryz.func45, Tryz.ntmps45
    go_wp2_with fail
    refine (cF _).mono ?_
    rintro e w' ⟨rfl, hb2⟩
    have HB2 := hid (HB.out.trans (hb2.mono HB.out.size))
    clear hb2
    go_wp2
    go_ret
    exact ⟨rfl, HB2.out⟩
  · have h1 : (F != 0) = true := by simpa using h0
    have h2 : (F == 0) = false := by simpa using h0
    rw [decide_eq_true h0]
    go_enter Tryz.func45, Tryz.ntmps45
    go_wp2_with fail
    refine (cF _).mono ?_
    rintro e w' ⟨rfl, hb2⟩
    have HB2 := hid (HB.out.trans (hb2.mono HB.out.size))
    clear hb2
    go_wp2
    go_ret
    exact ⟨rfl, HB2.out⟩
end Go.Proofs.YteckefolakjafaaGreatDoor

set_option linter.unusedVariables false
namespace Go.Proofs.YteckefolakjafaaGreatDoor
open Go Go.Proofs Go.RowKit Go.Lib

/-- What holds while a room is looked at: its box, the grid's, the number's. -/
structure KR (w0 : World) (d s b m n : Int) (v0 v1 v2 v3 v4 : Value) (w : World) : Prop where
  x : Cells5 w w0.heap.size 0 v0 v1 v2 v3 v4
  g : Box4 w (w0.heap.size + 1) d s b m
  n : w.cell? ⟨w0.heap.size + 1 + 1, 0, none⟩ = some (.int .i64 n)
  z : w0.heap.size + 1 + 1 < w.heap.size
  b : Below w0.heap.size w0 w
theorem KR.first (w : World) (d s b m n : Int) (v0 v1 v2 v3 v4 : Value) (T : TypeId) (o : Obj) (ho : o = .cells #[.int .i64 n] 3) :
    KR w d s b m n v0 v1 v2 v3 v4 (((w.alloc (.cells #[v0, v1, v2, v3, v4] 46)).alloc (.cells #[.int .i64 d, .int .i64 s, .int .i64 b, .int .i64 m] T)).alloc o) := by
  subst ho
  have h1 := Box5.new w v0 v1 v2 v3 v4
  have hb1 := (Below.refl w.heap.size w).alloc (Nat.le_refl _) (.cells #[v0, v1, v2, v3, v4] 46)
  have hs : (w.alloc (.cells #[v0, v1, v2, v3, v4] 46)).heap.size = w.heap.size + 1 := by simp
  generalize w.alloc (.cells #[v0, v1, v2, v3, v4] 46) = w1 at h1 hb1 hs ⊢
  have h2 := Box4.new w1 d s b m T
  have hb2 := (Below.refl w1.heap.size w1).alloc (Nat.le_refl _) (.cells #[.int .i64 d, .int .i64 s, .int .i64 b, .int .i64 m] T)
  have hs2 : (w1.alloc (.cells #[.int .i64 d, .int .i64 s, .int .i64 b, .int .i64 m] T)).heap.size = w.heap.size + 1 + 1 := by simp [hs]
  rw [hs] at h2
  generalize w1.alloc (.cells #[.int .i64 d, .int .i64 s, .int .i64 b, .int .i64 m] T) = w2 at h2 hb2 hs2 ⊢
  have hb3 := (Below.refl w2.heap.size w2).alloc (Nat.le_refl _) (.cells #[.int .i64 n] 3)
  have e3 := heap_alloc_new w2 (.cells #[.int .i64 n] 3)
  have hs3 : (w2.alloc (.cells #[.int .i64 n] 3)).heap.size = w.heap.size + 1 + 1 + 1 := by simp [hs2]
  have h5 := (h1.below hb2 h1.lt).below hb3 (by omega)
  refine ⟨h5.cells, h2.next hb3 h2.lt, ?_, by omega, (hb1.trans (hb2.mono (by omega))).trans (hb3.mono (by omega))⟩
  rw [hs2] at e3
  rw [Lib.cell_of_heap e3]
  rfl
theorem Cells5.below {w w' : World} {b o C : Nat} {v0 v1 v2 v3 v4 : Value} (h : Cells5 w b o v0 v1 v2 v3 v4) (hb : Below C w w') (hC : b < C) : Cells5 w' b o v0 v1 v2 v3 v4 := h.kept (hb.block b hC)
theorem KR.next {w0 w w' : World} {d s b m n : Int} {v0 v1 v2 v3 v4 : Value} (h : KR w0 d s b m n v0 v1 v2 v3 v4 w) (k : Below w.heap.size w w') : KR w0 d s b m n v0 v1 v2 v3 v4 w' := by
  have hz := h.z
  exact ⟨h.x.below k (by omega), h.g.next k (by omega), (k.cell (p := ⟨w0.heap.size + 1 + 1, 0, none⟩) hz).trans h.n, Nat.lt_of_lt_of_le hz k.size, h.b.trans (k.mono h.b.size)⟩
/-- The times of a list that do not fit: asked by ContainsFunc. -/
theorem anyT_any (p : TimeD → Bool) (g : Nat) (lb : Array Value) (eg : ∀ args w, (callFunc g args).run Tryz.prog w = .ok (.enter g args) w) (A : Option Addr) (l : List TimeD) (c B : Nat) (w : World) (hBw : B ≤ w.heap.size)
    (hp : PredBelow Tryz.prog g lb (fun x : TimeF => .agg (encT x).toArray) (fun x => p x.1) w) (h : TimesIn w (fun b => b < B) A l) (hlc : l.length ≤ c) (hc : c ≤ 9223372036854775807) :
    Calls Tryz.prog 43 #[.slice A l.length c, .func (.func g) #[] lb] w fun e w' => e = .returned (.bool (l.any p)) ∧ Below w.heap.size w w' := by
  rcases h with ⟨hle, rfl | ⟨b, off, rfl, hb, hcs⟩⟩
  · exact anyT_nil A c _ w
  · have hcon := AnyQ.slices_ContainsFunc Tryz.laysContainsF 4 Tryz.isAgg55 Tryz.sizeOf55 encT (fun _ => rfl) (fun x => p x.1) g lb eg b off l.length c (listF l hle) w hp (by rw [listF_len]; exact Nat.le_refl _) (by omega) (by show b < w.heap.size; omega) (fun j hj i v hv => by
      have hj' : j < l.length := by rwa [listF_len] at hj
      refine hcs j l[j] (List.getElem?_eq_getElem hj') i v ?_
      have e : (listF l hle)[j]! = ⟨l[j], hle _ (List.getElem_mem hj')⟩ := by
        rw [getElem!_pos (listF l hle) j hj]
        simp [listF]
      rw [e] at hv
      exact hv)
    rw [List.take_of_length_le (by rw [listF_len]; exact Nat.le_refl _), listF_any] at hcon
    exact hcon

set_option maxHeartbeats 8000000 in
set_option maxRecDepth 100000 in
theorem rcheck_any (d s b m n : Int) (r : RoomD) (q : Room5) (w : World) (h : RoomIn w (fun b => b < w.heap.size) r q) :
    Calls Tryz.prog 22 #[roomV r q, .agg #[.int .i64 d, .int .i64 s, .int .i64 b, .int .i64 m], .int .i64 n] w (Says (.int .i64 (roomM d s b m n r)) w) := by
  obtain ⟨code, bld, seats, fs, ts⟩ := r
  obtain ⟨A1, c1, A2, c2⟩ := q
  obtain ⟨hf, ht, hf1, hf2, ht1, ht2⟩ := h
  dsimp only at hf ht hf1 hf2 ht1 ht2
  unfold roomV Says
  dsimp only
  have hk0 := KR.first w d s b m n (.string (ba code)) (.string (ba bld)) (.int .i64 seats) (.slice A1 fs.length c1) (.slice A2 ts.length c2) 24 _ rfl
  have cV1 := fun w => S3.valid_any (ba code) w
  have cV2 := fun w => S3.valid_any (ba bld) w
  have hf' : ∀ w', Below w.heap.size w w' → S3.StrsIn w' (fun b => b < w.heap.size) A1 fs := fun w' hb => S3.StrsIn.below hf hb
  have ht' : ∀ w', Below w.heap.size w w' → TimesIn w' (fun b => b < w.heap.size) A2 ts := fun w' hb => ht.below hb
  have cA := hid (fun w' hb => areF_any A1 fs c1 _ w' (hf' w' hb) hf1 hf2)
  have cT := hid (fun (w' : World) (hk : KR w d s b m n (.string (ba code)) (.string (ba bld)) (.int .i64 seats) (.slice A1 fs.length c1) (.slice A2 ts.length c2) w') =>
    anyT_any (unfitB d s b m n) 45 #[.pointer (some ⟨w.heap.size + 1, 0, none⟩), .pointer (some ⟨w.heap.size + 1 + 1, 0, none⟩)] egUnfit A2 ts c2 w.heap.size w' (by have := hk.z; omega) (pred_unfit d s b m n _ _ w' hk.g hk.n hk.z) (ht' w' hk.b) ht1 ht2)
  obtain ⟨R, hR⟩ : ∃ R, roomM d s b m n (code, bld, seats, fs, ts) = R := ⟨_, rfl⟩
  rw [hR]
  rw [show (ba code).data.toList = code from rfl] at cV1
  rw [show (ba bld).data.toList = bld from rfl] at cV2
  unfold roomM at hR
  dsimp only at hR
  obtain ⟨V1, hV1⟩ : ∃ V, S3.validC code = V := ⟨_, rfl⟩
  obtain ⟨V2, hV2⟩ : ∃ V, S3.validC bld = V := ⟨_, rfl⟩
  obtain ⟨FB, hFB⟩ : ∃ V, featB fs = V := ⟨_, rfl⟩
  obtain ⟨TB, hTB⟩ : ∃ V, ts.any (unfitB d s b m n) = V := ⟨_, rfl⟩
  have cA' := cA.out
  have cT' := cT.out
  rw [hV1] at cV1 hR
  rw [hV2] at cV2 hR
  rw [hFB] at cA' hR
  rw [hTB] at cT' hR
  have CA := hid cA'
  have CT := hid cT'
  obtain ⟨X1, hX1⟩ : ∃ X, ba code = X := ⟨_, rfl⟩
  obtain ⟨X2, hX2⟩ : ∃ X, ba bld = X := ⟨_, rfl⟩
  rw [hX1] at hk0 cV1 CT ⊢
  rw [hX2] at hk0 cV2 CT ⊢
  obtain ⟨F1, hF1⟩ : ∃ F, fs.length = F := ⟨_, rfl⟩
  obtain ⟨T1, hT1⟩ : ∃ F, ts.length = F := ⟨_, rfl⟩
  rw [hF1] at hk0 CT CA hR ⊢
  rw [hT1] at hk0 CT hR ⊢
  clear hf ht hf' ht' cA cT cA' cT' hV1 hV2 hFB hTB hX1 hX2 hf1 ht1 hF1 hT1
  have HK0 := hid hk0
  clear hk0
  cases V1 with
  | false =>
    obtain rfl : R = 10 := by rw [← hR]; simp
    clear hR
    go_enter Tryz.func22, Tryz.ntmps22
    go_wp2_with fail
    have hk := HK0.out
    clear HK0
    generalize World.alloc _ _ = wx at hk ⊢
    obtain ⟨⟨x0, x1, x2, x3, x4⟩, ⟨g0, g1, g2, g3, _⟩, n0, _, _⟩ := id hk
    have HK := hid hk
    clear hk
    refine (cV1 _).mono ?_
    rintro e w' ⟨rfl, rfl⟩
    go_wp2
    go_ret
    exact ⟨rfl, HK.out.b⟩
  | true =>
  cases V2 with
  | false =>
    obtain rfl : R = 10 := by rw [← hR]; simp
    clear hR
    go_enter Tryz.func22, Tryz.ntmps22
    go_wp2_with fail
    have hk := HK0.out
    clear HK0
    generalize World.alloc _ _ = wx at hk ⊢
    obtain ⟨⟨x0, x1, x2, x3, x4⟩, ⟨g0, g1, g2, g3, _⟩, n0, _, _⟩ := id hk
    have HK := hid hk
    clear hk
    refine (cV1 _).mono ?_
    rintro e w' ⟨rfl, rfl⟩
    go_wp2_with fail
    refine (cV2 _).mono ?_
    rintro e w' ⟨rfl, rfl⟩
    go_wp2
    go_ret
    exact ⟨rfl, HK.out.b⟩
  | true =>
  rw [if_neg (by simp)] at hR
  by_cases s1 : seats < 1
  · have s1' : decide (seats < 1) = true := decide_eq_true s1
    obtain rfl : R = 3 := by rw [← hR, if_pos (.inl s1)]
    clear hR
    go_enter Tryz.func22, Tryz.ntmps22
    go_wp2_with fail
    have hk := HK0.out
    clear HK0
    generalize World.alloc _ _ = wx at hk ⊢
    obtain ⟨⟨x0, x1, x2, x3, x4⟩, ⟨g0, g1, g2, g3, _⟩, n0, _, _⟩ := id hk
    have HK := hid hk
    clear hk
    refine (cV1 _).mono ?_
    rintro e w' ⟨rfl, rfl⟩
    go_wp2_with fail
    refine (cV2 _).mono ?_
    rintro e w' ⟨rfl, rfl⟩
    go_wp2
    go_ret
    exact ⟨rfl, HK.out.b⟩
  have s1' : decide (seats < 1) = false := decide_eq_false s1
  by_cases s2 : 9999 < seats
  · have s2' : decide (9999 < seats) = true := decide_eq_true s2
    obtain rfl : R = 3 := by rw [← hR, if_pos (.inr s2)]
    clear hR
    go_enter Tryz.func22, Tryz.ntmps22
    go_wp2_with fail
    have hk := HK0.out
    clear HK0
    generalize World.alloc _ _ = wx at hk ⊢
    obtain ⟨⟨x0, x1, x2, x3, x4⟩, ⟨g0, g1, g2, g3, _⟩, n0, _, _⟩ := id hk
    have HK := hid hk
    clear hk
    refine (cV1 _).mono ?_
    rintro e w' ⟨rfl, rfl⟩
    go_wp2_with fail
    refine (cV2 _).mono ?_
    rintro e w' ⟨rfl, rfl⟩
    go_wp2
    go_ret
    exact ⟨rfl, HK.out.b⟩
  have s2' : decide (9999 < seats) = false := decide_eq_false s2
  rw [if_neg (by omega)] at hR
  by_cases z1 : 8 < F1
  · have z1' : (8 : Int) < (F1 : Int) := by omega
    have z1d : decide ((8 : Int) < (F1 : Int)) = true := decide_eq_true z1'
    obtain rfl : R = 2 := by rw [← hR, if_pos (.inl z1)]
    clear hR
    go_enter Tryz.func22, Tryz.ntmps22
    go_wp2_with fail
    have hk := HK0.out
    clear HK0
    generalize World.alloc _ _ = wx at hk ⊢
    obtain ⟨⟨x0, x1, x2, x3, x4⟩, ⟨g0, g1, g2, g3, _⟩, n0, _, _⟩ := id hk
    have HK := hid hk
    clear hk
    refine (cV1 _).mono ?_
    rintro e w' ⟨rfl, rfl⟩
    go_wp2_with fail
    refine (cV2 _).mono ?_
    rintro e w' ⟨rfl, rfl⟩
    go_wp2
    go_ret
    exact ⟨rfl, HK.out.b⟩
  have z1' : ¬ (8 : Int) < (F1 : Int) := by omega
  have z1d : decide ((8 : Int) < (F1 : Int)) = false := decide_eq_false z1'
  by_cases z2 : 24 < T1
  · have z2' : (24 : Int) < (T1 : Int) := by omega
    have z2d : decide ((24 : Int) < (T1 : Int)) = true := decide_eq_true z2'
    obtain rfl : R = 2 := by rw [← hR, if_pos (.inr z2)]
    clear hR
    go_enter Tryz.func22, Tryz.ntmps22
    go_wp2_with fail
    have hk := HK0.out
    clear HK0
    generalize World.alloc _ _ = wx at hk ⊢
    obtain ⟨⟨x0, x1, x2, x3, x4⟩, ⟨g0, g1, g2, g3, _⟩, n0, _, _⟩ := id hk
    have HK := hid hk
    clear hk
    refine (cV1 _).mono ?_
    rintro e w' ⟨rfl, rfl⟩
    go_wp2_with fail
    refine (cV2 _).mono ?_
    rintro e w' ⟨rfl, rfl⟩
    go_wp2
    go_ret
    exact ⟨rfl, HK.out.b⟩
  have z2' : ¬ (24 : Int) < (T1 : Int) := by omega
  have z2d : decide ((24 : Int) < (T1 : Int)) = false := decide_eq_false z2'
  rw [if_neg (by omega)] at hR
  clear z1 z2 s1 s2
  cases FB with
  | false =>
    obtain rfl : R = 10 := by rw [← hR]; simp
    clear hR
    go_enter Tryz.func22, Tryz.ntmps22
    go_wp2_with fail
    have hk := HK0.out
    clear HK0
    generalize World.alloc _ _ = wx at hk ⊢
    obtain ⟨⟨x0, x1, x2, x3, x4⟩, ⟨g0, g1, g2, g3, _⟩, n0, _, _⟩ := id hk
    have HK := hid hk
    clear hk
    refine (cV1 _).mono ?_
    rintro e w' ⟨rfl, rfl⟩
    go_wp2_with fail
    refine (cV2 _).mono ?_
    rintro e w' ⟨rfl, rfl⟩
    go_wp2_with fail
    refine (CA.out _ HK.out.b).mono ?_
    rintro e w' ⟨rfl, rfl⟩
    go_wp2
    go_ret
    exact ⟨rfl, HK.out.b⟩
  | true =>
  rw [if_neg (by simp)] at hR
  cases TB with
  | true =>
    obtain rfl : R = 14 := by rw [← hR]; simp
    clear hR
    go_enter Tryz.func22, Tryz.ntmps22
    go_wp2_with fail
    have hk := HK0.out
    clear HK0
    generalize World.alloc _ _ = wx at hk ⊢
    obtain ⟨⟨x0, x1, x2, x3, x4⟩, ⟨g0, g1, g2, g3, _⟩, n0, _, _⟩ := id hk
    have HK := hid hk
    clear hk
    refine (cV1 _).mono ?_
    rintro e w' ⟨rfl, rfl⟩
    go_wp2_with fail
    refine (cV2 _).mono ?_
    rintro e w' ⟨rfl, rfl⟩
    go_wp2_with fail
    refine (CA.out _ HK.out.b).mono ?_
    rintro e w' ⟨rfl, rfl⟩
    go_wp2_with fail
    refine (CT.out _ HK.out).mono ?_
    rintro e w2 ⟨rfl, hb⟩
    have HB := hid (HK.out.next hb).b
    clear hb
    go_wp2
    go_ret
    exact ⟨rfl, HB.out⟩
  | false =>
    obtain rfl : R = 0 := by rw [← hR]; simp
    clear hR
    go_enter Tryz.func22, Tryz.ntmps22
    go_wp2_with fail
    have hk := HK0.out
    clear HK0
    generalize World.alloc _ _ = wx at hk ⊢
    obtain ⟨⟨x0, x1, x2, x3, x4⟩, ⟨g0, g1, g2, g3, _⟩, n0, _, _⟩ := id hk
    have HK := hid hk
    clear hk
    refine (cV1 _).mono ?_
    rintro e w' ⟨rfl, rfl⟩
    go_wp2_with fail
    refine (cV2 _).mono ?_
    rintro e w' ⟨rfl, rfl⟩
    go_wp2_with fail
    refine (CA.out _ HK.out.b).mono ?_
    rintro e w' ⟨rfl, rfl⟩
    go_wp2_with fail
    refine (CT.out _ HK.out).mono ?_
    rintro e w2 ⟨rfl, hb⟩
    have HB := hid (HK.out.next hb).b
    clear hb
    go_wp2
    go_ret
    exact ⟨rfl, HB.out⟩
end Go.Proofs.YteckefolakjafaaGreatDoor

