/-
  Fits of timegrid. Condition: the start is a number of 64 bits. Parse of timegrid. Conditions: the variables hold what their text lays; the string fits into .. Conditions: as stated.
-/
import Derived.Test.YtnpfmoalgphkcaaGreatDoorMM01
import Derived.Test.YtnpfmoalgphkcaaGreatDoorMM02
import Derived.Test.YtnpfmoalgphkcaaGreatDoorMM03
import Derived.Test.YtnpfmoalgphkcaaGreatDoorMM04
import Derived.Test.YtnpfmoalgphkcaaGreatDoorMM05
import Derived.Test.YtnpfmoalgphkcaaGreatDoorMM06
import Derived.Test.YtnpfmoalgphkcaaGreatDoorProg
import Derived.WalkKit
import Derived.WalkSpells
import Derived.WalkLawsBesides
import Derived.Lib.Hide
import Derived.Deep.QuietTactic
import Derived.BigQuiet
import Derived.Laws.Rows
import Derived.OwnWalk
import Derived.Lib.BufferWrite
import Derived.Lib.UnsafeStr
import Derived.Laws.IdiomStrings
import Derived.Laws.BytesArg
import Derived.Laws.BytesString
import Derived.Laws.OwnMore
import Derived.Lib.IndexLaws
import Derived.Lib.ItoaNum
import Derived.Lib.Atoi
import Derived.Deep.RegionLaw
import Derived.Deep.RegionHeld3
import Derived.Handy
import Derived.Laws.BitsAllLaws
import Derived.Laws.BitsLemmas
import Derived.Deep.MidRow
import Derived.Shelf.Strings.Builder1
import Derived.Shelf.Strings.Builder2
import Derived.Shelf.Strings.OnBuilder
import Derived.Shelf.Strings.BuilderF
import Derived.Shelf.Strings.BuilderK
import Derived.Shelf.Strings.Builder2Cap
import Derived.Shelf.Strconv.Atoi
import Derived.Shelf.Strconv.Itoa0
import Derived.Shelf.Strconv.Itoa1
import Derived.Shelf.LaysM
import Derived.Shelf.Strconv.Itoa2
import Derived.Shelf.Strconv.Itoa3
import Derived.Shelf.Strconv.AtoiErrFast
import Derived.Shelf.Strconv.ParseIntEmpty
import Derived.Shelf.Strconv.AtoiFail
import Derived.Shelf.Strconv.Clone
import Derived.Shelf.Strconv.SyntaxError
import Derived.Shelf.LaysC
import Derived.Shelf.Strconv.ToError
import Derived.Shelf.Strconv.AtoiErr
import Derived.Shelf.Strings.Search1
import Derived.Shelf.Strings.Search2
import Derived.Shelf.Strings.Search3
import Derived.Shelf.Strings.Cut
import Derived.Shelf.Strings.Shaped
import Derived.Shelf.Strings.Prefix
import Derived.Shelf.Unicode.DecodeSlow
import Derived.Shelf.Strings.BuilderCap
import Derived.Lib.AtoiErrMem
import Derived.RangeFuncNested
import Derived.RangeFuncBound
import Derived.RangeFuncCalls
import Derived.RangeFuncLeaves
import Derived.Shelf.Abstract
import Derived.Shelf.RegionOpen
import Derived.OwnWalkIn
import Derived.TacticsInMore
import Derived.LoopNIn
import Derived.LoopIn
import Derived.Laws.ResultCell
set_option linter.unusedVariables false
namespace Go.Proofs.YtnpfmoalgphkcaaGreatDoor
open Go Go.Proofs Go.RowKit Go.Lib
theorem fits_no {d s b m n k y t l : Int} (hf : frameB d s b m n = true) (h : ¬ (soundB k y t l = true ∧ validM k n = true ∧ y < d ∧ t + l ≤ s)) : fitsM d s b m n k y t l = 14 := by
  unfold fitsM
  rw [if_pos hf, if_neg h]
set_option maxHeartbeats 8000000 in
set_option maxRecDepth 100000 in
theorem fits_any (d s b m n k y t l : Int) (ht : t ≤ 9223372036854775807) (w : World) : Calls Tryz.prog 89 #[.agg #[.int .i64 d, .int .i64 s, .int .i64 b, .int .i64 m], .int .i64 n, .agg #[.int .i64 k, .int .i64 y, .int .i64 t, .int .i64 l]] w (Says (.int .i64 (fitsM d s b m n k y t l)) w) := by
  have cF := fun w => isFrame_any d s b m n w
  have cS := fun w => sound_any k y t l ht w
  have cV := fun w => valid_any k n w
  unfold Says at cF cS ⊢
  cases hf : frameB d s b m n with
  | false =>
    rw [show fitsM d s b m n k y t l = 1 by unfold fitsM; rw [if_neg (by rw [hf]; simp)]]
    rw [hf] at cF
    clear hf cS cV
    have hk := K2.first w d s b m k y t l 24 26
    have HK := hid hk
    clear hk
    go_enter Tryz.func89, Tryz.ntmps89
    go_wp2_with fail
    refine (cF _).mono ?_
    rintro e w1 ⟨rfl, hb⟩
    have hk := HK.out.next hb
    clear hb HK
    go_wp2
    go_ret
    exact ⟨rfl, hk.b⟩
  | true =>
    rw [hf] at cF
    have cE : soundB k y t l = true → ∀ w, Calls Tryz.prog 95 #[.agg #[.int .i64 k, .int .i64 y, .int .i64 t, .int .i64 l]] w (Says (.int .i64 (t + l)) w) := fun hs w => by
      obtain ⟨s1, s2, s3, s4, s5⟩ := sound_of hs
      exact endOf_any k y t l s3 (by omega) (by omega) (by omega) w
    unfold Says at cE
    obtain ⟨S, hS⟩ : ∃ S, soundB k y t l = S := ⟨_, rfl⟩
    obtain ⟨V, hV⟩ : ∃ V, validM k n = V := ⟨_, rfl⟩
    have five : ((S = false ∨ V = false ∧ S = true) ∧ fitsM d s b m n k y t l = 14 ∨ S = true ∧ V = true ∧ d ≤ y ∧ fitsM d s b m n k y t l = 14) ∨ (S = true ∧ V = true ∧ ¬ d ≤ y ∧ (s < t + l ∧ fitsM d s b m n k y t l = 14 ∨ ¬ s < t + l ∧ fitsM d s b m n k y t l = 0)) := by
      unfold fitsM
      rw [if_pos hf, hS, hV]
      cases S <;> cases V <;> simp <;> omega
    rw [hS] at cS cE
    rw [hV] at cV
    generalize fitsM d s b m n k y t l = R at five ⊢
    clear hf hS hV
    rcases five with ((⟨rfl | ⟨rfl, rfl⟩, rfl⟩) | ⟨rfl, rfl, hy, rfl⟩) | ⟨rfl, rfl, hy, (⟨he, rfl⟩ | ⟨he, rfl⟩)⟩
    all_goals try have hy' : decide (d ≤ y) = true := decide_eq_true hy
    all_goals try have hy' : decide (d ≤ y) = false := decide_eq_false hy
    all_goals try have he' : decide (s < t + l) = true := decide_eq_true he
    all_goals try have he' : decide (s < t + l) = false := decide_eq_false he
    all_goals try replace cE := cE rfl
    all_goals
      have hk := K2.first w d s b m k y t l 24 26
      have HK := hid hk
      clear hk
      go_enter Tryz.func89, Tryz.ntmps89
      go_wp2_with fail
      refine (cF _).mono ?_
      rintro e w1 ⟨rfl, hb⟩
      have hk := HK.out.next hb
      clear hb HK
      go_wp2_with fail
      refine wp_region_held_drew (S := K2 w d s b m k y t l) (by kernel_rfl) hk.drew (fun hHeld => ?_)
      first
        | (refine wpAnyH_take (i := 0) (oi := _) (v := undef) rfl (by kernel_rfl) (by kernel_rfl) (by kernel_rfl) (fun _ _ _ h => h) (Or.inr ⟨by rfl, rfl⟩) (by assumption) ?_)
        | (refine wpAnyH_take (i := 0) (oi := _) (v := ?_) rfl (by kernel_rfl) (by kernel_rfl) (by kernel_rfl) (fun _ _ _ h => h) (Or.inl ⟨by rfl, ?_⟩) (by assumption) ?_; rotate_left; (intro wS hSw; obtain ⟨⟨x0, x1, x2, x3, _⟩, ⟨y0, y1, y2, y3, _⟩, _⟩ := hSw; (try simp only [List.getElem_toArray, List.getElem_cons_zero]); go_simp; (try with_reducible rfl)))
      try simp only [List.getElem_toArray, List.getElem_cons_zero, Act.put, List.setIfInBounds_toArray, List.set_cons_zero, List.set_cons_succ]
      first
        | (refine wpAnyH_take (i := 1) (oi := _) (v := undef) rfl (by kernel_rfl) (by kernel_rfl) (by kernel_rfl) (fun _ _ _ h => h) (Or.inr ⟨by rfl, rfl⟩) (by assumption) ?_)
        | (refine wpAnyH_ready (rs := [1]) (by kernel_rfl) (by simp) ?_; refine AllReadyH.cons (o := _) rfl (fun K hK => ?_) AllReadyH.nil; (try simp only [List.getElem_toArray, List.getElem_cons_succ, List.getElem_cons_zero]); go_simp; go_at_call 101; refine (cS _).mono ?_; rintro e w1 ⟨rfl, hb⟩; have hk2 := hHeld.next hb; clear hb hHeld; have hHeld := hk2; clear hk2; skip; go_wp2_with fail; refine hK.out _ _ hHeld (fun hHeld => ?_); clear hK K)
      try simp only [List.getElem_toArray, List.getElem_cons_succ, List.getElem_cons_zero, Act.put, List.setIfInBounds_toArray, List.set_cons_zero, List.set_cons_succ]
      first
        | (refine wpAnyH_take (i := 2) (oi := _) (v := undef) rfl (by kernel_rfl) (by kernel_rfl) (by kernel_rfl) (fun _ _ _ h => h) (Or.inr ⟨by rfl, rfl⟩) (by assumption) ?_)
        | (refine wpAnyH_take (i := 2) (oi := _) (v := ?_) rfl (by kernel_rfl) (by kernel_rfl) (by kernel_rfl) (fun _ _ _ h => h) (Or.inl ⟨by rfl, ?_⟩) (by assumption) ?_; rotate_left; (intro wS hSw; obtain ⟨⟨x0, x1, x2, x3, _⟩, ⟨y0, y1, y2, y3, _⟩, _⟩ := hSw; (try simp only [List.getElem_toArray, List.getElem_cons_succ, List.getElem_cons_zero]); go_simp; (try with_reducible rfl)))
      try simp only [List.getElem_toArray, List.getElem_cons_succ, List.getElem_cons_zero, Act.put, List.setIfInBounds_toArray, List.set_cons_zero, List.set_cons_succ]
      first
        | (refine wpAnyH_take (i := 3) (oi := _) (v := undef) rfl (by kernel_rfl) (by kernel_rfl) (by kernel_rfl) (fun _ _ _ h => h) (Or.inr ⟨by rfl, rfl⟩) (by assumption) ?_)
        | (refine wpAnyH_take (i := 3) (oi := _) (v := ?_) rfl (by kernel_rfl) (by kernel_rfl) (by kernel_rfl) (fun _ _ _ h => h) (Or.inl ⟨by rfl, ?_⟩) (by assumption) ?_; rotate_left; (intro wS hSw; obtain ⟨⟨x0, x1, x2, x3, _⟩, ⟨y0, y1, y2, y3, _⟩, _⟩ := hSw; (try simp only [List.getElem_toArray, List.getElem_cons_succ, List.getElem_cons_zero]); go_simp; (try with_reducible rfl)))
      try simp only [List.getElem_toArray, List.getElem_cons_succ, List.getElem_cons_zero, Act.put, List.setIfInBounds_toArray, List.set_cons_zero, List.set_cons_succ]
      first
        | (refine wpAnyH_take (i := 4) (oi := _) (v := undef) rfl (by kernel_rfl) (by kernel_rfl) (by kernel_rfl) (fun _ _ _ h => h) (Or.inr ⟨by rfl, rfl⟩) (by assumption) ?_)
        | (refine wpAnyH_take (i := 4) (oi := _) (v := ?_) rfl (by kernel_rfl) (by kernel_rfl) (by kernel_rfl) (fun _ _ _ h => h) (Or.inl ⟨by rfl, ?_⟩) (by assumption) ?_; rotate_left; (intro wS hSw; obtain ⟨⟨x0, x1, x2, x3, _⟩, ⟨y0, y1, y2, y3, _⟩, _⟩ := hSw; (try simp only [List.getElem_toArray, List.getElem_cons_succ, List.getElem_cons_zero]); go_simp; (try with_reducible rfl)))
      try simp only [List.getElem_toArray, List.getElem_cons_succ, List.getElem_cons_zero, Act.put, List.setIfInBounds_toArray, List.set_cons_zero, List.set_cons_succ]
      first
        | (refine wpAnyH_take (i := 5) (oi := _) (v := undef) rfl (by kernel_rfl) (by kernel_rfl) (by kernel_rfl) (fun _ _ _ h => h) (Or.inr ⟨by rfl, rfl⟩) (by assumption) ?_)
        | (refine wpAnyH_take (i := 5) (oi := _) (v := ?_) rfl (by kernel_rfl) (by kernel_rfl) (by kernel_rfl) (fun _ _ _ h => h) (Or.inl ⟨by rfl, ?_⟩) (by assumption) ?_; rotate_left; (intro wS hSw; obtain ⟨⟨x0, x1, x2, x3, _⟩, ⟨y0, y1, y2, y3, _⟩, _⟩ := hSw; (try simp only [List.getElem_toArray, List.getElem_cons_succ, List.getElem_cons_zero]); go_simp; (try with_reducible rfl)))
      try simp only [List.getElem_toArray, List.getElem_cons_succ, List.getElem_cons_zero, Act.put, List.setIfInBounds_toArray, List.set_cons_zero, List.set_cons_succ]
      first
        | (refine wpAnyH_take (i := 6) (oi := _) (v := undef) rfl (by kernel_rfl) (by kernel_rfl) (by kernel_rfl) (fun _ _ _ h => h) (Or.inr ⟨by rfl, rfl⟩) (by assumption) ?_)
        | (refine wpAnyH_take (i := 6) (oi := _) (v := ?_) rfl (by kernel_rfl) (by kernel_rfl) (by kernel_rfl) (fun _ _ _ h => h) (Or.inl ⟨by rfl, ?_⟩) (by assumption) ?_; rotate_left; (intro wS hSw; obtain ⟨⟨x0, x1, x2, x3, _⟩, ⟨y0, y1, y2, y3, _⟩, _⟩ := hSw; (try simp only [List.getElem_toArray, List.getElem_cons_succ, List.getElem_cons_zero]); go_simp; (try with_reducible rfl)))
      try simp only [List.getElem_toArray, List.getElem_cons_succ, List.getElem_cons_zero, Act.put, List.setIfInBounds_toArray, List.set_cons_zero, List.set_cons_succ]
      first
        | (refine wpAnyH_take (i := 7) (oi := _) (v := undef) rfl (by kernel_rfl) (by kernel_rfl) (by kernel_rfl) (fun _ _ _ h => h) (Or.inr ⟨by rfl, rfl⟩) (by assumption) ?_)
        | (refine wpAnyH_ready (rs := [7]) (by kernel_rfl) (by simp) ?_; refine AllReadyH.cons (o := _) rfl (fun K hK => ?_) AllReadyH.nil; (try simp only [List.getElem_toArray, List.getElem_cons_succ, List.getElem_cons_zero]); go_simp; go_at_call 106; refine (cV _).mono ?_; rintro e w1 ⟨rfl, q, hq⟩; have hk2 := hHeld.next (show Below _ _ w1 by rw [hq]; exact below_drewN (Below.refl _ _) q); clear hq hHeld; have hHeld := hk2; clear hk2; skip; go_wp2_with fail; refine hK.out _ _ hHeld (fun hHeld => ?_); clear hK K)
      try simp only [List.getElem_toArray, List.getElem_cons_succ, List.getElem_cons_zero, Act.put, List.setIfInBounds_toArray, List.set_cons_zero, List.set_cons_succ]
      first
        | (refine wpAnyH_take (i := 8) (oi := _) (v := undef) rfl (by kernel_rfl) (by kernel_rfl) (by kernel_rfl) (fun _ _ _ h => h) (Or.inr ⟨by rfl, rfl⟩) (by assumption) ?_)
        | (refine wpAnyH_take (i := 8) (oi := _) (v := ?_) rfl (by kernel_rfl) (by kernel_rfl) (by kernel_rfl) (fun _ _ _ h => h) (Or.inl ⟨by rfl, ?_⟩) (by assumption) ?_; rotate_left; (intro wS hSw; obtain ⟨⟨x0, x1, x2, x3, _⟩, ⟨y0, y1, y2, y3, _⟩, _⟩ := hSw; (try simp only [List.getElem_toArray, List.getElem_cons_succ, List.getElem_cons_zero]); go_simp; (try with_reducible rfl)))
      try simp only [List.getElem_toArray, List.getElem_cons_succ, List.getElem_cons_zero, Act.put, List.setIfInBounds_toArray, List.set_cons_zero, List.set_cons_succ]
      first
        | (refine wpAnyH_take (i := 9) (oi := _) (v := undef) rfl (by kernel_rfl) (by kernel_rfl) (by kernel_rfl) (fun _ _ _ h => h) (Or.inr ⟨by rfl, rfl⟩) (by assumption) ?_)
        | (refine wpAnyH_take (i := 9) (oi := _) (v := ?_) rfl (by kernel_rfl) (by kernel_rfl) (by kernel_rfl) (fun _ _ _ h => h) (Or.inl ⟨by rfl, ?_⟩) (by assumption) ?_; rotate_left; (intro wS hSw; obtain ⟨⟨x0, x1, x2, x3, _⟩, ⟨y0, y1, y2, y3, _⟩, _⟩ := hSw; (try simp only [List.getElem_toArray, List.getElem_cons_succ, List.getElem_cons_zero]); go_simp; (try with_reducible rfl)))
      try simp only [List.getElem_toArray, List.getElem_cons_succ, List.getElem_cons_zero, Act.put, List.setIfInBounds_toArray, List.set_cons_zero, List.set_cons_succ]
      first
        | (refine wpAnyH_take (i := 10) (oi := _) (v := undef) rfl (by kernel_rfl) (by kernel_rfl) (by kernel_rfl) (fun _ _ _ h => h) (Or.inr ⟨by rfl, rfl⟩) (by assumption) ?_)
        | (refine wpAnyH_take (i := 10) (oi := _) (v := ?_) rfl (by kernel_rfl) (by kernel_rfl) (by kernel_rfl) (fun _ _ _ h => h) (Or.inl ⟨by rfl, ?_⟩) (by assumption) ?_; rotate_left; (intro wS hSw; obtain ⟨⟨x0, x1, x2, x3, _⟩, ⟨y0, y1, y2, y3, _⟩, _⟩ := hSw; (try simp only [List.getElem_toArray, List.getElem_cons_succ, List.getElem_cons_zero]); go_simp; (try with_reducible rfl)))
      try simp only [List.getElem_toArray, List.getElem_cons_succ, List.getElem_cons_zero, Act.put, List.setIfInBounds_toArray, List.set_cons_zero, List.set_cons_succ]
      first
        | (refine wpAnyH_take (i := 11) (oi := _) (v := undef) rfl (by kernel_rfl) (by kernel_rfl) (by kernel_rfl) (fun _ _ _ h => h) (Or.inr ⟨by rfl, rfl⟩) (by assumption) ?_)
        | (refine wpAnyH_take (i := 11) (oi := _) (v := ?_) rfl (by kernel_rfl) (by kernel_rfl) (by kernel_rfl) (fun _ _ _ h => h) (Or.inl ⟨by rfl, ?_⟩) (by assumption) ?_; rotate_left; (intro wS hSw; obtain ⟨⟨x0, x1, x2, x3, _⟩, ⟨y0, y1, y2, y3, _⟩, _⟩ := hSw; (try simp only [List.getElem_toArray, List.getElem_cons_succ, List.getElem_cons_zero]); go_simp; (try with_reducible rfl)))
      try simp only [List.getElem_toArray, List.getElem_cons_succ, List.getElem_cons_zero, Act.put, List.setIfInBounds_toArray, List.set_cons_zero, List.set_cons_succ]
      first
        | (refine wpAnyH_take (i := 12) (oi := _) (v := undef) rfl (by kernel_rfl) (by kernel_rfl) (by kernel_rfl) (fun _ _ _ h => h) (Or.inr ⟨by rfl, rfl⟩) (by assumption) ?_)
        | (refine wpAnyH_take (i := 12) (oi := _) (v := ?_) rfl (by kernel_rfl) (by kernel_rfl) (by kernel_rfl) (fun _ _ _ h => h) (Or.inl ⟨by rfl, ?_⟩) (by assumption) ?_; rotate_left; (intro wS hSw; obtain ⟨⟨x0, x1, x2, x3, _⟩, ⟨y0, y1, y2, y3, _⟩, _⟩ := hSw; (try simp only [List.getElem_toArray, List.getElem_cons_succ, List.getElem_cons_zero]); go_simp; (try with_reducible rfl)))
      try simp only [List.getElem_toArray, List.getElem_cons_succ, List.getElem_cons_zero, Act.put, List.setIfInBounds_toArray, List.set_cons_zero, List.set_cons_succ]
      first
        | (refine wpAnyH_take (i := 13) (oi := _) (v := undef) rfl (by kernel_rfl) (by kernel_rfl) (by kernel_rfl) (fun _ _ _ h => h) (Or.inr ⟨by rfl, rfl⟩) (by assumption) ?_)
        | (refine wpAnyH_take (i := 13) (oi := _) (v := ?_) rfl (by kernel_rfl) (by kernel_rfl) (by kernel_rfl) (fun _ _ _ h => h) (Or.inl ⟨by rfl, ?_⟩) (by assumption) ?_; rotate_left; (intro wS hSw; obtain ⟨⟨x0, x1, x2, x3, _⟩, ⟨y0, y1, y2, y3, _⟩, _⟩ := hSw; (try simp only [List.getElem_toArray, List.getElem_cons_succ, List.getElem_cons_zero]); go_simp; (try with_reducible rfl)))
      try simp only [List.getElem_toArray, List.getElem_cons_succ, List.getElem_cons_zero, Act.put, List.setIfInBounds_toArray, List.set_cons_zero, List.set_cons_succ]
      first
        | (refine wpAnyH_take (i := 14) (oi := _) (v := undef) rfl (by kernel_rfl) (by kernel_rfl) (by kernel_rfl) (fun _ _ _ h => h) (Or.inr ⟨by rfl, rfl⟩) (by assumption) ?_)
        | (refine wpAnyH_take (i := 14) (oi := _) (v := ?_) rfl (by kernel_rfl) (by kernel_rfl) (by kernel_rfl) (fun _ _ _ h => h) (Or.inl ⟨by rfl, ?_⟩) (by assumption) ?_; rotate_left; (intro wS hSw; obtain ⟨⟨x0, x1, x2, x3, _⟩, ⟨y0, y1, y2, y3, _⟩, _⟩ := hSw; (try simp only [List.getElem_toArray, List.getElem_cons_succ, List.getElem_cons_zero]); go_simp; (try with_reducible rfl)))
      try simp only [List.getElem_toArray, List.getElem_cons_succ, List.getElem_cons_zero, Act.put, List.setIfInBounds_toArray, List.set_cons_zero, List.set_cons_succ]
      first
        | (refine wpAnyH_take (i := 15) (oi := _) (v := undef) rfl (by kernel_rfl) (by kernel_rfl) (by kernel_rfl) (fun _ _ _ h => h) (Or.inr ⟨by rfl, rfl⟩) (by assumption) ?_)
        | (refine wpAnyH_take (i := 15) (oi := _) (v := ?_) rfl (by kernel_rfl) (by kernel_rfl) (by kernel_rfl) (fun _ _ _ h => h) (Or.inl ⟨by rfl, ?_⟩) (by assumption) ?_; rotate_left; (intro wS hSw; obtain ⟨⟨x0, x1, x2, x3, _⟩, ⟨y0, y1, y2, y3, _⟩, _⟩ := hSw; (try simp only [List.getElem_toArray, List.getElem_cons_succ, List.getElem_cons_zero]); go_simp; (try with_reducible rfl)))
      try simp only [List.getElem_toArray, List.getElem_cons_succ, List.getElem_cons_zero, Act.put, List.setIfInBounds_toArray, List.set_cons_zero, List.set_cons_succ]
      first
        | (refine wpAnyH_take (i := 16) (oi := _) (v := undef) rfl (by kernel_rfl) (by kernel_rfl) (by kernel_rfl) (fun _ _ _ h => h) (Or.inr ⟨by rfl, rfl⟩) (by assumption) ?_)
        | (refine wpAnyH_take (i := 16) (oi := _) (v := ?_) rfl (by kernel_rfl) (by kernel_rfl) (by kernel_rfl) (fun _ _ _ h => h) (Or.inl ⟨by rfl, ?_⟩) (by assumption) ?_; rotate_left; (intro wS hSw; obtain ⟨⟨x0, x1, x2, x3, _⟩, ⟨y0, y1, y2, y3, _⟩, _⟩ := hSw; (try simp only [List.getElem_toArray, List.getElem_cons_succ, List.getElem_cons_zero]); go_simp; (try with_reducible rfl)))
      try simp only [List.getElem_toArray, List.getElem_cons_succ, List.getElem_cons_zero, Act.put, List.setIfInBounds_toArray, List.set_cons_zero, List.set_cons_succ]
      first
        | (refine wpAnyH_take (i := 17) (oi := _) (v := undef) rfl (by kernel_rfl) (by kernel_rfl) (by kernel_rfl) (fun _ _ _ h => h) (Or.inr ⟨by rfl, rfl⟩) (by assumption) ?_)
        | (refine wpAnyH_take (i := 17) (oi := _) (v := ?_) rfl (by kernel_rfl) (by kernel_rfl) (by kernel_rfl) (fun _ _ _ h => h) (Or.inl ⟨by rfl, ?_⟩) (by assumption) ?_; rotate_left; (intro wS hSw; obtain ⟨⟨x0, x1, x2, x3, _⟩, ⟨y0, y1, y2, y3, _⟩, _⟩ := hSw; (try simp only [List.getElem_toArray, List.getElem_cons_succ, List.getElem_cons_zero]); go_simp; (try with_reducible rfl)))
      try simp only [List.getElem_toArray, List.getElem_cons_succ, List.getElem_cons_zero, Act.put, List.setIfInBounds_toArray, List.set_cons_zero, List.set_cons_succ]
      first
        | (refine wpAnyH_take (i := 18) (oi := _) (v := undef) rfl (by kernel_rfl) (by kernel_rfl) (by kernel_rfl) (fun _ _ _ h => h) (Or.inr ⟨by rfl, rfl⟩) (by assumption) ?_)
        | (refine wpAnyH_take (i := 18) (oi := _) (v := ?_) rfl (by kernel_rfl) (by kernel_rfl) (by kernel_rfl) (fun _ _ _ h => h) (Or.inl ⟨by rfl, ?_⟩) (by assumption) ?_; rotate_left; (intro wS hSw; obtain ⟨⟨x0, x1, x2, x3, _⟩, ⟨y0, y1, y2, y3, _⟩, _⟩ := hSw; (try simp only [List.getElem_toArray, List.getElem_cons_succ, List.getElem_cons_zero]); go_simp; (try with_reducible rfl)))
      try simp only [List.getElem_toArray, List.getElem_cons_succ, List.getElem_cons_zero, Act.put, List.setIfInBounds_toArray, List.set_cons_zero, List.set_cons_succ]
      first
        | (refine wpAnyH_take (i := 20) (oi := _) (v := undef) rfl (by kernel_rfl) (by kernel_rfl) (by kernel_rfl) (fun _ _ _ h => h) (Or.inr ⟨by rfl, rfl⟩) (by assumption) ?_)
        | (refine wpAnyH_take (i := 20) (oi := _) (v := ?_) rfl (by kernel_rfl) (by kernel_rfl) (by kernel_rfl) (fun _ _ _ h => h) (Or.inl ⟨by rfl, ?_⟩) (by assumption) ?_; rotate_left; (intro wS hSw; obtain ⟨⟨x0, x1, x2, x3, _⟩, ⟨y0, y1, y2, y3, _⟩, _⟩ := hSw; (try simp only [List.getElem_toArray, List.getElem_cons_succ, List.getElem_cons_zero]); go_simp; (try with_reducible rfl)))
      try simp only [List.getElem_toArray, List.getElem_cons_succ, List.getElem_cons_zero, Act.put, List.setIfInBounds_toArray, List.set_cons_zero, List.set_cons_succ]
      first
        | (refine wpAnyH_take (i := 21) (oi := _) (v := undef) rfl (by kernel_rfl) (by kernel_rfl) (by kernel_rfl) (fun _ _ _ h => h) (Or.inr ⟨by rfl, rfl⟩) (by assumption) ?_)
        | (refine wpAnyH_take (i := 21) (oi := _) (v := ?_) rfl (by kernel_rfl) (by kernel_rfl) (by kernel_rfl) (fun _ _ _ h => h) (Or.inl ⟨by rfl, ?_⟩) (by assumption) ?_; rotate_left; (intro wS hSw; obtain ⟨⟨x0, x1, x2, x3, _⟩, ⟨y0, y1, y2, y3, _⟩, _⟩ := hSw; (try simp only [List.getElem_toArray, List.getElem_cons_succ, List.getElem_cons_zero]); go_simp; (try with_reducible rfl)))
      try simp only [List.getElem_toArray, List.getElem_cons_succ, List.getElem_cons_zero, Act.put, List.setIfInBounds_toArray, List.set_cons_zero, List.set_cons_succ]
      first
        | (refine wpAnyH_take (i := 19) (oi := _) (v := undef) rfl (by kernel_rfl) (by kernel_rfl) (by kernel_rfl) (fun _ _ _ h => h) (Or.inr ⟨by rfl, rfl⟩) (by assumption) ?_)
        | (refine wpAnyH_ready (rs := [19]) (by kernel_rfl) (by simp) ?_; refine AllReadyH.cons (o := _) rfl (fun K hK => ?_) AllReadyH.nil; (try simp only [List.getElem_toArray, List.getElem_cons_succ, List.getElem_cons_zero]); go_simp; go_at_call 95; refine (cE _).mono ?_; rintro e w1 ⟨rfl, hb⟩; have hk2 := hHeld.next hb; clear hb hHeld; have hHeld := hk2; clear hk2; skip; go_wp2_with fail; refine hK.out _ _ hHeld (fun hHeld => ?_); clear hK K)
      try simp only [List.getElem_toArray, List.getElem_cons_succ, List.getElem_cons_zero, Act.put, List.setIfInBounds_toArray, List.set_cons_zero, List.set_cons_succ]
      first
        | (refine wpAnyH_take (i := 22) (oi := _) (v := undef) rfl (by kernel_rfl) (by kernel_rfl) (by kernel_rfl) (fun _ _ _ h => h) (Or.inr ⟨by rfl, rfl⟩) (by assumption) ?_)
        | (refine wpAnyH_take (i := 22) (oi := _) (v := ?_) rfl (by kernel_rfl) (by kernel_rfl) (by kernel_rfl) (fun _ _ _ h => h) (Or.inl ⟨by rfl, ?_⟩) (by assumption) ?_; rotate_left; (intro wS hSw; obtain ⟨⟨x0, x1, x2, x3, _⟩, ⟨y0, y1, y2, y3, _⟩, _⟩ := hSw; (try simp only [List.getElem_toArray, List.getElem_cons_succ, List.getElem_cons_zero]); go_simp; (try with_reducible rfl)))
      try simp only [List.getElem_toArray, List.getElem_cons_succ, List.getElem_cons_zero, Act.put, List.setIfInBounds_toArray, List.set_cons_zero, List.set_cons_succ]
      first
        | (refine wpAnyH_take (i := 23) (oi := _) (v := undef) rfl (by kernel_rfl) (by kernel_rfl) (by kernel_rfl) (fun _ _ _ h => h) (Or.inr ⟨by rfl, rfl⟩) (by assumption) ?_)
        | (refine wpAnyH_take (i := 23) (oi := _) (v := ?_) rfl (by kernel_rfl) (by kernel_rfl) (by kernel_rfl) (fun _ _ _ h => h) (Or.inl ⟨by rfl, ?_⟩) (by assumption) ?_; rotate_left; (intro wS hSw; obtain ⟨⟨x0, x1, x2, x3, _⟩, ⟨y0, y1, y2, y3, _⟩, _⟩ := hSw; (try simp only [List.getElem_toArray, List.getElem_cons_succ, List.getElem_cons_zero]); go_simp; (try with_reducible rfl)))
      try simp only [List.getElem_toArray, List.getElem_cons_succ, List.getElem_cons_zero, Act.put, List.setIfInBounds_toArray, List.set_cons_zero, List.set_cons_succ]
      first
        | (refine wpAnyH_take (i := 24) (oi := _) (v := undef) rfl (by kernel_rfl) (by kernel_rfl) (by kernel_rfl) (fun _ _ _ h => h) (Or.inr ⟨by rfl, rfl⟩) (by assumption) ?_)
        | (refine wpAnyH_take (i := 24) (oi := _) (v := ?_) rfl (by kernel_rfl) (by kernel_rfl) (by kernel_rfl) (fun _ _ _ h => h) (Or.inl ⟨by rfl, ?_⟩) (by assumption) ?_; rotate_left; (intro wS hSw; obtain ⟨⟨x0, x1, x2, x3, _⟩, ⟨y0, y1, y2, y3, _⟩, _⟩ := hSw; (try simp only [List.getElem_toArray, List.getElem_cons_succ, List.getElem_cons_zero]); go_simp; (try with_reducible rfl)))
      try simp only [List.getElem_toArray, List.getElem_cons_succ, List.getElem_cons_zero, Act.put, List.setIfInBounds_toArray, List.set_cons_zero, List.set_cons_succ]
      refine wpAnyH_done (by kernel_rfl) ?_ _
      go_wp2
      go_ret
      exact ⟨rfl, hHeld.b⟩
theorem results_ct {fn : Func} {p u : Tmp} {A : TypeId} (h : fn.results = #[.cell p A, .tmp u]) (tmps : Array Value) (P : Program) (w : World) (a : Addr) (va vc : Value)
    (ha : tmps.getD p undef = .pointer (some a)) (hc : tmps.getD u undef = vc)
    (hla : (loadVar A a).run P w = .ok va w) : (results fn tmps).run P w = .ok (.tuple #[va, vc]) w := by
  rw [Array.getD_eq_getD_getElem?] at ha hc
  simp only [results, h]
  simp [Result.andThen, ha, hc, hla, asAddr]
theorem loadT {w : World} {k : Nat} {x y z u : Value} (h : w.heap[k]? = some (.cells #[x, y, z, u] 26 (0, 0))) : (loadVar 26 ⟨k, 0, none⟩).run Tryz.prog w = .ok (.agg #[x, y, z, u]) w := by
  have h0 : w.cell? ⟨k, 0, none⟩ = some x := by rw [Lib.cell_of_heap h]; rfl
  have h1 : w.cell? ⟨k, 1, none⟩ = some y := by rw [Lib.cell_of_heap h]; rfl
  have h2 : w.cell? ⟨k, 2, none⟩ = some z := by rw [Lib.cell_of_heap h]; rfl
  have h3 : w.cell? ⟨k, 3, none⟩ = some u := by rw [Lib.cell_of_heap h]; rfl
  simp [loadVar, go_sem, h0, h1, h2, h3]
def TimeAt (w : World) (R : Nat) (k y t l : Int) : Prop := w.heap[R]? = some (.cells #[.int .i64 k, .int .i64 y, .int .i64 t, .int .i64 l] 26 (0, 0))
theorem TimeAt.set {w : World} {R : Nat} {k y t l k' y' t' l' : Int} (h : TimeAt w R k y t l) :
    TimeAt ((((w.setCell ⟨R, 0, none⟩ (.int .i64 k')).setCell ⟨R, 1, none⟩ (.int .i64 y')).setCell ⟨R, 2, none⟩ (.int .i64 t')).setCell ⟨R, 3, none⟩ (.int .i64 l')) R k' y' t' l' := by
  have h0 : (w.setCell ⟨R, 0, none⟩ (.int .i64 k')).heap[R]? = some (.cells #[.int .i64 k', .int .i64 y, .int .i64 t, .int .i64 l] 26 (0, 0)) := by
    rw [heap_setCell_same w R 0 _ _ _ h]
    rfl
  generalize w.setCell ⟨R, 0, none⟩ (.int .i64 k') = w0 at h0 ⊢
  have h1 : (w0.setCell ⟨R, 1, none⟩ (.int .i64 y')).heap[R]? = some (.cells #[.int .i64 k', .int .i64 y', .int .i64 t, .int .i64 l] 26 (0, 0)) := by
    rw [heap_setCell_same w0 R 1 _ _ _ h0]
    rfl
  generalize w0.setCell ⟨R, 1, none⟩ (.int .i64 y') = w1 at h1 ⊢
  have h2 : (w1.setCell ⟨R, 2, none⟩ (.int .i64 t')).heap[R]? = some (.cells #[.int .i64 k', .int .i64 y', .int .i64 t', .int .i64 l] 26 (0, 0)) := by
    rw [heap_setCell_same w1 R 2 _ _ _ h1]
    rfl
  generalize w1.setCell ⟨R, 2, none⟩ (.int .i64 t') = w2 at h2 ⊢
  unfold TimeAt
  rw [heap_setCell_same w2 R 3 _ _ _ h2]
  rfl
theorem TimeAt.free {w : World} {R : Nat} {k y t l : Int} (h : TimeAt w R k y t l) (j : Nat) : w.frozen? ⟨R, j, none⟩ = false := by
  unfold TimeAt at h
  simp [World.frozen?, h]
theorem TimeAt.box {w : World} {R : Nat} {k y t l : Int} (h : TimeAt w R k y t l) : Box4 w R k y t l := by
  unfold TimeAt at h
  refine ⟨?_, ?_, ?_, ?_, (Array.getElem?_eq_some_iff.1 h).1⟩
  all_goals (rw [Lib.cell_of_heap h]; rfl)
structure PK (w0 : World) (d s b m : Int) (w : World) : Prop where
  x : Box4 w w0.heap.size d s b m
  r : TimeAt w (w0.heap.size + 1) 0 0 0 0
  b : Below w0.heap.size w0 w
section
variable {w0 w w' : World} {d s b m : Int}
theorem PK.next (h : PK w0 d s b m w) (k : Below w.heap.size w w') : PK w0 d s b m w' :=
  ⟨h.x.next k h.x.lt, (k.block _ (Array.getElem?_eq_some_iff.1 h.r).1).trans h.r, h.b.trans (k.mono h.b.size)⟩
theorem PK.fin (h : PK w0 d s b m w) (k' y' t' l' : Int) (W : World)
    (hW : W = ((((w.setCell ⟨w0.heap.size + 1, 0, none⟩ (.int .i64 k')).setCell ⟨w0.heap.size + 1, 1, none⟩ (.int .i64 y')).setCell ⟨w0.heap.size + 1, 2, none⟩ (.int .i64 t')).setCell ⟨w0.heap.size + 1, 3, none⟩ (.int .i64 l'))) :
    (loadVar 26 ⟨w0.heap.size + 1, 0, none⟩).run Tryz.prog W = .ok (.agg #[.int .i64 k', .int .i64 y', .int .i64 t', .int .i64 l']) W ∧ Below w0.heap.size w0 W := by
  subst hW
  exact ⟨loadT h.r.set, (((h.b.setCell (p := ⟨w0.heap.size + 1, 0, none⟩) (by show w0.heap.size ≤ w0.heap.size + 1; omega) _).setCell (p := ⟨w0.heap.size + 1, 1, none⟩) (by show w0.heap.size ≤ w0.heap.size + 1; omega) _).setCell (p := ⟨w0.heap.size + 1, 2, none⟩) (by show w0.heap.size ≤ w0.heap.size + 1; omega) _).setCell (p := ⟨w0.heap.size + 1, 3, none⟩) (by show w0.heap.size ≤ w0.heap.size + 1; omega) _⟩
end
theorem PK.first (w : World) (d s b m : Int) (t : TypeId) : PK w d s b m ((w.alloc (.cells #[.int .i64 d, .int .i64 s, .int .i64 b, .int .i64 m] t)).alloc (.cells #[.int .i64 0, .int .i64 0, .int .i64 0, .int .i64 0] 26)) := by
  have h1 := K1.first w d s b m t
  have hs : (w.alloc (.cells #[.int .i64 d, .int .i64 s, .int .i64 b, .int .i64 m] t)).heap.size = w.heap.size + 1 := by simp
  generalize w.alloc (.cells #[.int .i64 d, .int .i64 s, .int .i64 b, .int .i64 m] t) = w1 at h1 hs ⊢
  have h2 := heap_alloc_new w1 (.cells #[.int .i64 0, .int .i64 0, .int .i64 0, .int .i64 0] 26)
  have k : Below w1.heap.size w1 (w1.alloc (.cells #[.int .i64 0, .int .i64 0, .int .i64 0, .int .i64 0] 26)) := (Below.refl _ w1).alloc (Nat.le_refl _) _
  rw [hs] at h2
  exact ⟨h1.x.next k h1.x.lt, h2, h1.b.trans (k.mono h1.b.size)⟩
theorem set_small {s : ByteArray} (hz : s.size ≤ 4611686018427387904) : (ba (setT (lst s))).size ≤ 4611686018427387904 := by
  rw [ba_size]
  unfold setT
  split
  · have h1 := aft_le 32 (aft 32 (lst s))
    have h2 := aft_le 32 (lst s)
    rw [← Lib.size_eq] at h2
    unfold wSet
    omega
  · simp
theorem slots_small {s : ByteArray} (hz : s.size ≤ 4611686018427387904) : (ba (wSlots (lst s))).size ≤ 4611686018427387904 := by
  rw [ba_size]
  unfold wSlots
  have h1 := bef_le 32 (aft 32 (lst s))
  have h2 := aft_le 32 (lst s)
  rw [← Lib.size_eq] at h2
  omega
theorem weeks_set {x : Str} {n : Nat} (h1 : 1 ≤ n) (h2 : n ≤ 20) : parseM (setT x) (n : Int) = weeksT x n := by
  unfold parseM setT weeksT
  rw [if_pos (by omega), Int.toNat_natCast]
  split
  · rfl
  · exact parse_all h1 h2
def TimeOut (r : (Int × Int × Int × Int) × Int) (w : World) (e : Ending) (w' : World) : Prop :=
  e = .returned (.tuple #[.agg #[.int .i64 r.1.1, .int .i64 r.1.2.1, .int .i64 r.1.2.2.1, .int .i64 r.1.2.2.2], .int .i64 r.2]) ∧ Below w.heap.size w w'
theorem four_body {d s : Int} {n : Nat} {x : Str} {k : Nat} {D : Bool} {f g : Nat} {Q : Bool} {v : Nat} {e : Int} (h1 : dayR (wDay x) = (k, D)) (h2 : spanM (wSlots x) = (f, g, Q)) (h3 : weeksT x n = (v, e)) {O : Bool} (h4 : wordsB x = O) :
    ((O = false ∨ O = true ∧ D = false ∨ O = true ∧ D = true ∧ Q = false) ∧ bodyT d s n x = ((0, 0, 0, 0), 4)) ∨
    (O = true ∧ D = true ∧ Q = true ∧ f < 100 ∧ g < 100 ∧ k < 7 ∧
      ((d ≤ k ∧ bodyT d s n x = ((0, 0, 0, 0), 14)) ∨ (¬ d ≤ k ∧ ((g < f ∧ bodyT d s n x = ((0, 0, 0, 0), 14)) ∨ (¬ g < f ∧ ((s < g ∧ bodyT d s n x = ((0, 0, 0, 0), 14)) ∨
        (¬ s < g ∧ ((e ≠ 0 ∧ bodyT d s n x = ((0, 0, 0, 0), e)) ∨ (e = 0 ∧ bodyT d s n x = (((v : Int), (k : Int), (f : Int) - 1, (g : Int) - (f : Int) + 1), 0)))))))))) := by
  unfold dayR at h1
  unfold spanM at h2
  unfold bodyT
  have hfl : fromN (wSlots x) < 100 := smallN_lt _
  have hgl : toN (wSlots x) < 100 := by unfold toN; split <;> exact smallN_lt _
  cases O with
  | false => exact .inl ⟨.inl rfl, by rw [if_neg (by rw [h4]; simp)]⟩
  | true =>
    rw [h4]
    by_cases hz : fromN (wSlots x) = 0 ∨ toN (wSlots x) = 0
    · rw [if_pos hz] at h2
      injection h2 with h2 h5
      injection h5 with h5 h6
      subst h6
      rw [if_neg (fun h => h.2 hz)]
      cases D with
      | false => exact .inl ⟨.inr (.inl ⟨rfl, rfl⟩), rfl⟩
      | true => exact .inl ⟨.inr (.inr ⟨rfl, rfl, rfl⟩), rfl⟩
    · rw [if_neg hz] at h2
      injection h2 with h2 h5
      injection h5 with h5 h6
      subst h6
      rw [if_pos ⟨rfl, hz⟩]
      cases hd : dayK (wDay x) with
      | none =>
        rw [hd] at h1
        injection h1 with h7 h8
        subst h8
        exact .inl ⟨.inr (.inl ⟨rfl, rfl⟩), rfl⟩
      | some k' =>
        rw [hd] at h1
        injection h1 with h7 h8
        subst h8
        subst h7
        have hk7 := (dayK_some hd).1
        refine .inr ⟨rfl, rfl, rfl, by omega, by omega, hk7, ?_⟩
        dsimp only
        unfold readT
        rw [h2, h5, h3]
        dsimp only
        by_cases a1 : d ≤ (k' : Int)
        · exact .inl ⟨a1, by rw [if_neg (by omega)]⟩
        · refine .inr ⟨a1, ?_⟩
          by_cases a2 : g < f
          · exact .inl ⟨a2, by rw [if_neg (fun h => h.2.1 a2)]⟩
          · refine .inr ⟨a2, ?_⟩
            by_cases a3 : s < (g : Int)
            · exact .inl ⟨a3, by rw [if_neg (by omega)]⟩
            · refine .inr ⟨a3, ?_⟩
              rw [if_pos ⟨by omega, a2, by omega⟩]
              by_cases a4 : e = 0
              · exact .inr ⟨a4, by rw [if_pos a4]⟩
              · exact .inl ⟨a4, by rw [if_neg a4]⟩
set_option maxHeartbeats 8000000 in
set_option maxRecDepth 100000 in
theorem tparse_any (d s b m N : Int) (x : ByteArray) (hz : x.size ≤ 4611686018427387904) (w : World) (hE : Env w) (hDy : Days w) :
    Calls Tryz.prog 91 #[.agg #[.int .i64 d, .int .i64 s, .int .i64 b, .int .i64 m], .int .i64 N, .string x] w (TimeOut (timeM d s b m N (lst x)) w) := by
  have cF := fun w => isFrame_any d s b m N w
  have cW := fun w => cutWords_any x hz w
  have cD := hid (fun w h => dayOf_any (ba (wDay (lst x))) w h)
  have cS := hid (fun w h => readSpan_any (ba (wSlots (lst x))) (slots_small hz) w h)
  have cP := hid (fun w h => parse_any (ba (setT (lst x))) (set_small hz) N w h)
  have hsz := hE.size
  have HE := hid hE
  have HDY := hid hDy
  unfold Says at cF
  unfold WordsOut at cW
  unfold TimeOut timeM
  cases hf : frameB d s b m N with
  | false =>
    rw [hf] at cF
    rw [if_neg (by simp)]
    clear hf cW cD cS cP hE hDy
    have HK := hid (PK.first w d s b m 24)
    go_enter Tryz.func91, Tryz.ntmps91
    go_wp2_with fail
    refine (cF _).mono ?_
    rintro e w1 ⟨rfl, hb⟩
    have hk := HK.out.next hb
    clear hb HK
    obtain ⟨⟨x0, x1, x2, x3, _⟩, ⟨r0, r1, r2, r3, _⟩⟩ := And.intro hk.x hk.r.box
    have f0 := hk.r.free 0
    have f1 := hk.r.free 1
    have f2 := hk.r.free 2
    have f3 := hk.r.free 3
    go_wp2
    have hf := hk.fin (0) (0) (0) (0) _ rfl
    refine bodyPost_ret (v := .tuple #[.agg #[.int .i64 (0), .int .i64 (0), .int .i64 (0), .int .i64 (0)], .int .i64 (1)]) (results_ct rfl _ _ _ ⟨w.heap.size + 1, 0, none⟩ _ _ rfl rfl hf.1) rfl ?_
    exact ⟨rfl, hf.2⟩
  | true =>
    rw [hf] at cF
    rw [if_pos rfl]
    obtain ⟨_, n1, n2⟩ := frame_of hf
    obtain ⟨n, rfl⟩ := natN (show 0 ≤ N by omega)
    rw [Int.toNat_natCast]
    have cP' := cP.out
    rw [show lst (ba (setT (lst x))) = setT (lst x) from rfl, weeks_set (by omega) (by omega)] at cP'
    have cD' := cD.out
    rw [show lst (ba (wDay (lst x))) = wDay (lst x) from rfl] at cD'
    have cS' := cS.out
    rw [show lst (ba (wSlots (lst x))) = wSlots (lst x) from rfl] at cS'
    unfold SpanOut at cS'
    unfold ItemOut at cP'
    obtain ⟨⟨k, D⟩, hD⟩ : ∃ r, dayR (wDay (lst x)) = r := ⟨_, rfl⟩
    obtain ⟨⟨f, g, Q⟩, hQ⟩ : ∃ r, spanM (wSlots (lst x)) = r := ⟨_, rfl⟩
    obtain ⟨⟨v, e⟩, hV⟩ : ∃ r, weeksT (lst x) n = r := ⟨_, rfl⟩
    obtain ⟨O, hO⟩ : ∃ r, wordsB (lst x) = r := ⟨_, rfl⟩
    have all := four_body (d := d) (s := s) (n := n) hD hQ hV hO
    rw [hD] at cD'
    rw [hQ] at cS'
    rw [hV] at cP'
    rw [hO] at cW
    dsimp only at cD' cS' cP'
    generalize bodyT d s n (lst x) = R at all ⊢
    generalize ba (wDay (lst x)) = X1 at cW cD'
    generalize ba (wSlots (lst x)) = X2 at cW cS'
    generalize ba (setT (lst x)) = X3 at cW cP'
    clear cD cS cP
    have cD := hid cD'
    have cS := hid cS'
    have cP := hid cP'
    clear hf hD hQ hV hO hE hDy cD' cS' cP' n1 n2 hz
    rcases all with ⟨hbad, rfl⟩ | ⟨rfl, rfl, rfl, hfl, hgl, hk7, all⟩
    · rcases hbad with rfl | ⟨rfl, rfl⟩ | ⟨rfl, rfl, rfl⟩
      all_goals
        have HK := hid (PK.first w d s b m 24)
        go_enter Tryz.func91, Tryz.ntmps91
        go_wp2_with fail
        refine (cF _).mono ?_
        rintro e w1 ⟨rfl, hb⟩
        have hk := HK.out.next hb
        clear hb HK
        obtain ⟨⟨x0, x1, x2, x3, _⟩, ⟨r0, r1, r2, r3, _⟩⟩ := And.intro hk.x hk.r.box
        have f0 := hk.r.free 0
        have f1 := hk.r.free 1
        have f2 := hk.r.free 2
        have f3 := hk.r.free 3
        go_wp2_with fail
        refine (cW _).mono ?_
        rintro e w1 ⟨rfl, hb⟩
        have hk := hk.next hb
        clear hb
        obtain ⟨⟨x0, x1, x2, x3, _⟩, ⟨r0, r1, r2, r3, _⟩⟩ := And.intro hk.x hk.r.box
        have f0 := hk.r.free 0
        have f1 := hk.r.free 1
        have f2 := hk.r.free 2
        have f3 := hk.r.free 3
        go_wp2_with fail
        refine (cD.out _ (HDY.out.below hk.b hsz)).mono ?_
        rintro e w1 ⟨rfl, hb⟩
        have hk := hk.next hb
        clear hb
        obtain ⟨⟨x0, x1, x2, x3, _⟩, ⟨r0, r1, r2, r3, _⟩⟩ := And.intro hk.x hk.r.box
        have f0 := hk.r.free 0
        have f1 := hk.r.free 1
        have f2 := hk.r.free 2
        have f3 := hk.r.free 3
        go_wp2_with fail
        refine (cS.out _ (HE.out.below hk.b hsz)).mono ?_
        rintro e w1 ⟨rfl, hb⟩
        have hk := hk.next hb
        clear hb
        obtain ⟨⟨x0, x1, x2, x3, _⟩, ⟨r0, r1, r2, r3, _⟩⟩ := And.intro hk.x hk.r.box
        have f0 := hk.r.free 0
        have f1 := hk.r.free 1
        have f2 := hk.r.free 2
        have f3 := hk.r.free 3
        go_wp2
        have hf := hk.fin (0) (0) (0) (0) _ rfl
        refine bodyPost_ret (v := .tuple #[.agg #[.int .i64 (0), .int .i64 (0), .int .i64 (0), .int .i64 (0)], .int .i64 (4)]) (results_ct rfl _ _ _ ⟨w.heap.size + 1, 0, none⟩ _ _ rfl rfl hf.1) rfl ?_
        exact ⟨rfl, hf.2⟩
    · have e1 : IntKind.i64.wrap ((f : Int) - 1) = (f : Int) - 1 := IntWalk.i64_in _ (by omega)
      have e2 : IntKind.i64.wrap ((g : Int) - (f : Int)) = (g : Int) - (f : Int) := IntWalk.i64_in _ (by omega)
      have e3 : IntKind.i64.wrap ((g : Int) - (f : Int) + 1) = (g : Int) - (f : Int) + 1 := IntWalk.i64_in _ (by omega)
      rcases all with ⟨a1, rfl⟩ | ⟨a1, all⟩
      · have b1 : decide (d ≤ (k : Int)) = true := decide_eq_true a1
        have HK := hid (PK.first w d s b m 24)
        go_enter Tryz.func91, Tryz.ntmps91
        go_wp2_with fail
        refine (cF _).mono ?_
        rintro e w1 ⟨rfl, hb⟩
        have hk := HK.out.next hb
        clear hb HK
        obtain ⟨⟨x0, x1, x2, x3, _⟩, ⟨r0, r1, r2, r3, _⟩⟩ := And.intro hk.x hk.r.box
        have f0 := hk.r.free 0
        have f1 := hk.r.free 1
        have f2 := hk.r.free 2
        have f3 := hk.r.free 3
        go_wp2_with fail
        refine (cW _).mono ?_
        rintro e w1 ⟨rfl, hb⟩
        have hk := hk.next hb
        clear hb
        obtain ⟨⟨x0, x1, x2, x3, _⟩, ⟨r0, r1, r2, r3, _⟩⟩ := And.intro hk.x hk.r.box
        have f0 := hk.r.free 0
        have f1 := hk.r.free 1
        have f2 := hk.r.free 2
        have f3 := hk.r.free 3
        go_wp2_with fail
        refine (cD.out _ (HDY.out.below hk.b hsz)).mono ?_
        rintro e w1 ⟨rfl, hb⟩
        have hk := hk.next hb
        clear hb
        obtain ⟨⟨x0, x1, x2, x3, _⟩, ⟨r0, r1, r2, r3, _⟩⟩ := And.intro hk.x hk.r.box
        have f0 := hk.r.free 0
        have f1 := hk.r.free 1
        have f2 := hk.r.free 2
        have f3 := hk.r.free 3
        go_wp2_with fail
        refine (cS.out _ (HE.out.below hk.b hsz)).mono ?_
        rintro e w1 ⟨rfl, hb⟩
        have hk := hk.next hb
        clear hb
        obtain ⟨⟨x0, x1, x2, x3, _⟩, ⟨r0, r1, r2, r3, _⟩⟩ := And.intro hk.x hk.r.box
        have f0 := hk.r.free 0
        have f1 := hk.r.free 1
        have f2 := hk.r.free 2
        have f3 := hk.r.free 3
        go_wp2
        have hf := hk.fin (0) (0) (0) (0) _ rfl
        refine bodyPost_ret (v := .tuple #[.agg #[.int .i64 (0), .int .i64 (0), .int .i64 (0), .int .i64 (0)], .int .i64 (14)]) (results_ct rfl _ _ _ ⟨w.heap.size + 1, 0, none⟩ _ _ rfl rfl hf.1) rfl ?_
        exact ⟨rfl, hf.2⟩
      · have b1 : decide (d ≤ (k : Int)) = false := decide_eq_false a1
        rcases all with ⟨a2, rfl⟩ | ⟨a2, all⟩
        · have b2 : decide ((g : Int) < (f : Int)) = true := decide_eq_true (by omega)
          have HK := hid (PK.first w d s b m 24)
          go_enter Tryz.func91, Tryz.ntmps91
          go_wp2_with fail
          refine (cF _).mono ?_
          rintro e w1 ⟨rfl, hb⟩
          have hk := HK.out.next hb
          clear hb HK
          obtain ⟨⟨x0, x1, x2, x3, _⟩, ⟨r0, r1, r2, r3, _⟩⟩ := And.intro hk.x hk.r.box
          have f0 := hk.r.free 0
          have f1 := hk.r.free 1
          have f2 := hk.r.free 2
          have f3 := hk.r.free 3
          go_wp2_with fail
          refine (cW _).mono ?_
          rintro e w1 ⟨rfl, hb⟩
          have hk := hk.next hb
          clear hb
          obtain ⟨⟨x0, x1, x2, x3, _⟩, ⟨r0, r1, r2, r3, _⟩⟩ := And.intro hk.x hk.r.box
          have f0 := hk.r.free 0
          have f1 := hk.r.free 1
          have f2 := hk.r.free 2
          have f3 := hk.r.free 3
          go_wp2_with fail
          refine (cD.out _ (HDY.out.below hk.b hsz)).mono ?_
          rintro e w1 ⟨rfl, hb⟩
          have hk := hk.next hb
          clear hb
          obtain ⟨⟨x0, x1, x2, x3, _⟩, ⟨r0, r1, r2, r3, _⟩⟩ := And.intro hk.x hk.r.box
          have f0 := hk.r.free 0
          have f1 := hk.r.free 1
          have f2 := hk.r.free 2
          have f3 := hk.r.free 3
          go_wp2_with fail
          refine (cS.out _ (HE.out.below hk.b hsz)).mono ?_
          rintro e w1 ⟨rfl, hb⟩
          have hk := hk.next hb
          clear hb
          obtain ⟨⟨x0, x1, x2, x3, _⟩, ⟨r0, r1, r2, r3, _⟩⟩ := And.intro hk.x hk.r.box
          have f0 := hk.r.free 0
          have f1 := hk.r.free 1
          have f2 := hk.r.free 2
          have f3 := hk.r.free 3
          go_wp2
          have hf := hk.fin (0) (0) (0) (0) _ rfl
          refine bodyPost_ret (v := .tuple #[.agg #[.int .i64 (0), .int .i64 (0), .int .i64 (0), .int .i64 (0)], .int .i64 (14)]) (results_ct rfl _ _ _ ⟨w.heap.size + 1, 0, none⟩ _ _ rfl rfl hf.1) rfl ?_
          exact ⟨rfl, hf.2⟩
        · have b2 : decide ((g : Int) < (f : Int)) = false := decide_eq_false (by omega)
          rcases all with ⟨a3, rfl⟩ | ⟨a3, all⟩
          · have b3 : decide (s < (g : Int)) = true := decide_eq_true a3
            have HK := hid (PK.first w d s b m 24)
            go_enter Tryz.func91, Tryz.ntmps91
            go_wp2_with fail
            refine (cF _).mono ?_
            rintro e w1 ⟨rfl, hb⟩
            have hk := HK.out.next hb
            clear hb HK
            obtain ⟨⟨x0, x1, x2, x3, _⟩, ⟨r0, r1, r2, r3, _⟩⟩ := And.intro hk.x hk.r.box
            have f0 := hk.r.free 0
            have f1 := hk.r.free 1
            have f2 := hk.r.free 2
            have f3 := hk.r.free 3
            go_wp2_with fail
            refine (cW _).mono ?_
            rintro e w1 ⟨rfl, hb⟩
            have hk := hk.next hb
            clear hb
            obtain ⟨⟨x0, x1, x2, x3, _⟩, ⟨r0, r1, r2, r3, _⟩⟩ := And.intro hk.x hk.r.box
            have f0 := hk.r.free 0
            have f1 := hk.r.free 1
            have f2 := hk.r.free 2
            have f3 := hk.r.free 3
            go_wp2_with fail
            refine (cD.out _ (HDY.out.below hk.b hsz)).mono ?_
            rintro e w1 ⟨rfl, hb⟩
            have hk := hk.next hb
            clear hb
            obtain ⟨⟨x0, x1, x2, x3, _⟩, ⟨r0, r1, r2, r3, _⟩⟩ := And.intro hk.x hk.r.box
            have f0 := hk.r.free 0
            have f1 := hk.r.free 1
            have f2 := hk.r.free 2
            have f3 := hk.r.free 3
            go_wp2_with fail
            refine (cS.out _ (HE.out.below hk.b hsz)).mono ?_
            rintro e w1 ⟨rfl, hb⟩
            have hk := hk.next hb
            clear hb
            obtain ⟨⟨x0, x1, x2, x3, _⟩, ⟨r0, r1, r2, r3, _⟩⟩ := And.intro hk.x hk.r.box
            have f0 := hk.r.free 0
            have f1 := hk.r.free 1
            have f2 := hk.r.free 2
            have f3 := hk.r.free 3
            go_wp2
            have hf := hk.fin (0) (0) (0) (0) _ rfl
            refine bodyPost_ret (v := .tuple #[.agg #[.int .i64 (0), .int .i64 (0), .int .i64 (0), .int .i64 (0)], .int .i64 (14)]) (results_ct rfl _ _ _ ⟨w.heap.size + 1, 0, none⟩ _ _ rfl rfl hf.1) rfl ?_
            exact ⟨rfl, hf.2⟩
          · have b3 : decide (s < (g : Int)) = false := decide_eq_false a3
            rcases all with ⟨a4, rfl⟩ | ⟨rfl, rfl⟩
            · have b4 : (e != 0) = true := by simpa using a4
              have HK := hid (PK.first w d s b m 24)
              go_enter Tryz.func91, Tryz.ntmps91
              go_wp2_with fail
              refine (cF _).mono ?_
              rintro e w1 ⟨rfl, hb⟩
              have hk := HK.out.next hb
              clear hb HK
              obtain ⟨⟨x0, x1, x2, x3, _⟩, ⟨r0, r1, r2, r3, _⟩⟩ := And.intro hk.x hk.r.box
              have f0 := hk.r.free 0
              have f1 := hk.r.free 1
              have f2 := hk.r.free 2
              have f3 := hk.r.free 3
              go_wp2_with fail
              refine (cW _).mono ?_
              rintro e w1 ⟨rfl, hb⟩
              have hk := hk.next hb
              clear hb
              obtain ⟨⟨x0, x1, x2, x3, _⟩, ⟨r0, r1, r2, r3, _⟩⟩ := And.intro hk.x hk.r.box
              have f0 := hk.r.free 0
              have f1 := hk.r.free 1
              have f2 := hk.r.free 2
              have f3 := hk.r.free 3
              go_wp2_with fail
              refine (cD.out _ (HDY.out.below hk.b hsz)).mono ?_
              rintro e w1 ⟨rfl, hb⟩
              have hk := hk.next hb
              clear hb
              obtain ⟨⟨x0, x1, x2, x3, _⟩, ⟨r0, r1, r2, r3, _⟩⟩ := And.intro hk.x hk.r.box
              have f0 := hk.r.free 0
              have f1 := hk.r.free 1
              have f2 := hk.r.free 2
              have f3 := hk.r.free 3
              go_wp2_with fail
              refine (cS.out _ (HE.out.below hk.b hsz)).mono ?_
              rintro e w1 ⟨rfl, hb⟩
              have hk := hk.next hb
              clear hb
              obtain ⟨⟨x0, x1, x2, x3, _⟩, ⟨r0, r1, r2, r3, _⟩⟩ := And.intro hk.x hk.r.box
              have f0 := hk.r.free 0
              have f1 := hk.r.free 1
              have f2 := hk.r.free 2
              have f3 := hk.r.free 3
              go_wp2_with fail
              refine (cP.out _ (HE.out.below hk.b hsz)).mono ?_
              rintro e w1 ⟨rfl, hb⟩
              have hk := hk.next hb
              clear hb
              obtain ⟨⟨x0, x1, x2, x3, _⟩, ⟨r0, r1, r2, r3, _⟩⟩ := And.intro hk.x hk.r.box
              have f0 := hk.r.free 0
              have f1 := hk.r.free 1
              have f2 := hk.r.free 2
              have f3 := hk.r.free 3
              go_wp2
              have hf := hk.fin (0) (0) (0) (0) _ rfl
              refine bodyPost_ret (v := .tuple #[.agg #[.int .i64 (0), .int .i64 (0), .int .i64 (0), .int .i64 (0)], .int .i64 (e)]) (results_ct rfl _ _ _ ⟨w.heap.size + 1, 0, none⟩ _ _ rfl rfl hf.1) rfl ?_
              exact ⟨rfl, hf.2⟩
            · skip
              have HK := hid (PK.first w d s b m 24)
              go_enter Tryz.func91, Tryz.ntmps91
              go_wp2_with fail
              refine (cF _).mono ?_
              rintro e w1 ⟨rfl, hb⟩
              have hk := HK.out.next hb
              clear hb HK
              obtain ⟨⟨x0, x1, x2, x3, _⟩, ⟨r0, r1, r2, r3, _⟩⟩ := And.intro hk.x hk.r.box
              have f0 := hk.r.free 0
              have f1 := hk.r.free 1
              have f2 := hk.r.free 2
              have f3 := hk.r.free 3
              go_wp2_with fail
              refine (cW _).mono ?_
              rintro e w1 ⟨rfl, hb⟩
              have hk := hk.next hb
              clear hb
              obtain ⟨⟨x0, x1, x2, x3, _⟩, ⟨r0, r1, r2, r3, _⟩⟩ := And.intro hk.x hk.r.box
              have f0 := hk.r.free 0
              have f1 := hk.r.free 1
              have f2 := hk.r.free 2
              have f3 := hk.r.free 3
              go_wp2_with fail
              refine (cD.out _ (HDY.out.below hk.b hsz)).mono ?_
              rintro e w1 ⟨rfl, hb⟩
              have hk := hk.next hb
              clear hb
              obtain ⟨⟨x0, x1, x2, x3, _⟩, ⟨r0, r1, r2, r3, _⟩⟩ := And.intro hk.x hk.r.box
              have f0 := hk.r.free 0
              have f1 := hk.r.free 1
              have f2 := hk.r.free 2
              have f3 := hk.r.free 3
              go_wp2_with fail
              refine (cS.out _ (HE.out.below hk.b hsz)).mono ?_
              rintro e w1 ⟨rfl, hb⟩
              have hk := hk.next hb
              clear hb
              obtain ⟨⟨x0, x1, x2, x3, _⟩, ⟨r0, r1, r2, r3, _⟩⟩ := And.intro hk.x hk.r.box
              have f0 := hk.r.free 0
              have f1 := hk.r.free 1
              have f2 := hk.r.free 2
              have f3 := hk.r.free 3
              go_wp2_with fail
              refine (cP.out _ (HE.out.below hk.b hsz)).mono ?_
              rintro e w1 ⟨rfl, hb⟩
              have hk := hk.next hb
              clear hb
              obtain ⟨⟨x0, x1, x2, x3, _⟩, ⟨r0, r1, r2, r3, _⟩⟩ := And.intro hk.x hk.r.box
              have f0 := hk.r.free 0
              have f1 := hk.r.free 1
              have f2 := hk.r.free 2
              have f3 := hk.r.free 3
              go_wp2
              have hf := hk.fin ((v : Int)) ((k : Int)) ((f : Int) - 1) ((g : Int) - (f : Int) + 1) _ rfl
              refine bodyPost_ret (v := .tuple #[.agg #[.int .i64 ((v : Int)), .int .i64 ((k : Int)), .int .i64 ((f : Int) - 1), .int .i64 ((g : Int) - (f : Int) + 1)], .int .i64 (0)]) (results_ct rfl _ _ _ ⟨w.heap.size + 1, 0, none⟩ _ _ rfl rfl hf.1) rfl ?_
              exact ⟨rfl, hf.2⟩
theorem castL_get (l : List Nat) (j : Nat) (v : Nat) (h : l[j]? = some v) : (castL l)[j]? = some (v : Int) := by
  unfold castL
  rw [List.getElem?_map, h]
  rfl
theorem IntsIn.cell {w : World} {B : Nat} {A : Option Addr} {l : List Nat} (h : IntsIn w B A (castL l)) (hne : l ≠ []) : ∃ b off, A = some ⟨b, off, none⟩ ∧ ∀ j v, l[j]? = some v → w.cell? ⟨b, off + j, none⟩ = some (.int .i64 ((v : Nat) : Int)) := by
  rcases h with h | ⟨b, off, hA, hB, hc⟩
  · exact absurd (by unfold castL at h; simpa using h) hne
  · exact ⟨b, off, hA, fun j v hv => hc j _ (castL_get l j v hv)⟩
set_option maxHeartbeats 4000000 in
set_option maxRecDepth 100000 in
theorem runAhead_any (a : Nat) (r : List Nat) (A : Option Addr) (c B : Nat) (hl : r.length ≤ 20) (ha : a ≤ 100) (w : World) (h : IntsIn w B A (castL (a :: r))) :
    Calls Tryz.prog 120 #[.slice A (r.length + 1) c] w fun e w' => e = .returned (.int .i64 ((cnt a r + 1 : Nat) : Int)) ∧ ∃ q, w' = w.drewN q := by
  obtain ⟨b, off, rfl, hc⟩ := h.cell (by simp)
  have c0 := hc 0 a rfl
  rw [Nat.add_zero] at c0
  have hle := cnt_le r a
  obtain ⟨C, hC⟩ : ∃ C, cnt a r = C := ⟨_, rfl⟩
  have hget := cnt_get r a
  have hend := cnt_end r a
  rw [hC] at hget hend hle ⊢
  have HC := hid hc
  have HG := hid hget
  have HE := hid hend
  clear hc hget hend hC h
  go_enter Tryz.func120, Tryz.ntmps120
  go_wp2
  go_loopw [3] (fun iv wr => ∃ m : Nat, iv = .int .i64 ((m : Int) + 1) ∧ m ≤ C ∧ ∃ q, wr = w.drewN q) (fun iv _ => C + 1 - (RowKit.intOf iv).toNat)
  case atStart => exact ⟨0, rfl, by omega, 0, rfl⟩
  case round =>
    obtain ⟨m, rfl, hm, q, rfl⟩ := hrel
    by_cases hlt : m < r.length
    · have hltz : (m : Int) + 1 < (r.length : Int) + 1 := by omega
      have hltz2 : (m : Int) < (r.length : Int) := by omega
      obtain ⟨x, hx⟩ : ∃ x, r[m]? = some x := ⟨r[m], List.getElem?_eq_getElem hlt⟩
      have cm := HC.out (m + 1) x (by rw [List.getElem?_cons_succ]; exact hx)
      have hsum : IntKind.i64.wrap ((a : Int) + ((m : Int) + 1)) = (a : Int) + ((m : Int) + 1) := IntWalk.i64_in _ (by omega)
      by_cases hmc : m < C
      · have hxe := HG.out m hmc
        rw [hx] at hxe
        injection hxe with hxe
        have hb : ((x : Int) == (a : Int) + ((m : Int) + 1)) = true := by simp; omega
        clear hx hxe
        go_wp2
        go_quiet (fail)
        go_wp2
        go_roundw
        case rel => exact ⟨m + 1, by simp, by omega, _, rfl⟩
        case measure => simp [RowKit.intOf]; omega
      · obtain rfl : m = C := by omega
        have hb : ((x : Int) == (a : Int) + ((m : Int) + 1)) = false := by
          rw [beq_eq_false_iff_ne]
          intro e
          apply HE.out
          rw [hx]
          congr 1
          omega
        clear hx
        go_wp2
        go_quiet (fail)
        go_wp2
        go_ret
        exact ⟨by simp, _, World.drewN_drewN _ _ _⟩
    · have hltz : ¬ (m : Int) + 1 < (r.length : Int) + 1 := by omega
      have hltz2 : ¬ (m : Int) < (r.length : Int) := by omega
      obtain rfl : m = C := by omega
      go_wp2
      go_quiet (fail)
      go_wp2
      go_ret
      exact ⟨by simp, _, World.drewN_drewN _ _ _⟩
theorem app_ba (a b : Str) : ba a ++ ba b = ba (a ++ b) := by
  apply ByteArray.ext
  simp [ba]
theorem add_ba (x y : Str) (h : x.length + y.length ≤ 9223372036854775807) : ∀ w, (Op.stringOp .add (ba x) (ba y)).run Tryz.prog w = .ok (.string (ba (x ++ y))) w := fun w => by
  rw [run_string_add_sum (w := w) _ _ (by rw [ba_size, ba_size]; exact h), app_ba]
set_option maxHeartbeats 2000000 in
theorem writeItem_any (a b : Nat) (ha : a < 100) (hb : b < 100) (w : World) : Calls Tryz.prog 94 #[.int .i64 (a : Int), .int .i64 (b : Int)] w fun e w' => e = .returned (.string (ba (itemT a b))) ∧ w' = w := by
  have cA := fun w => Tryz.strconv_Itoa_small a ha w
  have cB := fun w => Tryz.strconv_Itoa_small b hb w
  rw [dec_dec2 a ha] at cA
  rw [dec_dec2 b hb] at cB
  rw [show (⟨(dec2 a).toArray⟩ : ByteArray) = ba (dec2 a) from rfl] at cA
  rw [show (⟨(dec2 b).toArray⟩ : ByteArray) = ba (dec2 b) from rfl] at cB
  by_cases he : a = b
  · subst he
    have e : itemT a a = dec2 a := if_pos rfl
    rw [e]
    have hz : ((a : Int) == (a : Int)) = true := by simp
    go_enter Tryz.func94, Tryz.ntmps94
    go_wp2_with fail
    refine (cA _).mono ?_
    rintro e w' ⟨rfl, rfl⟩
    go_wp2
    go_ret
    exact ⟨rfl, rfl⟩
  · have e : itemT a b = dec2 a ++ 45 :: dec2 b := if_neg he
    rw [e]
    have hz : ((a : Int) == (b : Int)) = false := by simp; omega
    have l1 := dec2_len a
    have l2 := dec2_len b
    have s1 := add_ba (dec2 a) [45] (by rw [List.length_singleton]; omega)
    have s2 := add_ba (dec2 a ++ [45]) (dec2 b) (by rw [List.length_append, List.length_singleton]; omega)
    rw [List.append_assoc, List.singleton_append] at s2
    rw [show ba [45] = (⟨#[45]⟩ : ByteArray) from rfl] at s1
    clear e he
    go_enter Tryz.func94, Tryz.ntmps94
    go_wp2_with fail
    refine (cA _).mono ?_
    rintro e w1 ⟨rfl, rfl⟩
    go_wp2_with fail
    refine (cB _).mono ?_
    rintro e w1 ⟨rfl, rfl⟩
    go_wp2
    go_ret
    exact ⟨rfl, rfl⟩
theorem dec_one (u : Nat) (h : u < 10) : dec2 u = [UInt8.ofNat (48 + u)] := if_pos h
theorem dec_two (u : Nat) (h0 : 10 ≤ u) (h : u < 100) : dec2 u = dec2 (u / 10) ++ dec2 (u % 10) := by
  rw [dec_one (u / 10) (by omega), dec_one (u % 10) (by omega)]
  exact if_neg (by omega)
set_option maxHeartbeats 2000000 in
theorem rdec1_any (u : Nat) (h : u < 10) (w : World) : Calls Tryz.prog 79 #[.int .i64 (u : Int)] w fun e w' => e = .returned (.string (ba (dec2 u))) ∧ Below w.heap.size w w' := by
  rw [dec_one u h]
  obtain ⟨x, hx⟩ : ∃ x : UInt8, UInt8.ofNat (48 + u) = x := ⟨_, rfl⟩
  have hxn : (x.toNat : Int) = 48 + (u : Int) := by rw [← hx]; simp; omega
  rw [hx]
  have hz : (u : Int) < 10 := by omega
  have q1 : IntKind.i64.wrap (48 + (u : Int)) = (x.toNat : Int) := by rw [hxn]; exact IntWalk.i64_in _ (by omega)
  have q1' : 48 + (u : Int) = (x.toNat : Int) := hxn.symm
  have q2 : IntKind.u8.wrap (x.toNat : Int) = (x.toNat : Int) := by simp [IntKind.wrap, IntKind.bits, IntKind.signed]; omega
  have hcv : (Go.convert 91 9 (.slice (some ⟨w.heap.size, 0, none⟩) 1 1)).run Tryz.prog (w.alloc (.cells #[.int .u8 (x.toNat : Int)] 5)) = .ok (.string (ba [x])) (w.alloc (.cells #[.int .u8 (x.toNat : Int)] 5)) :=
    run_convert_bytes_back (w.alloc (.cells #[.int .u8 (x.toNat : Int)] 5)) 91 9 5 ⟨w.heap.size, 0, none⟩ 1 [x] Tryz.underlying91 Tryz.underlying5 Tryz.underlying9 (fun j hj => by
      obtain rfl : j = 0 := by simpa using hj
      simp [Addr.add])
  have HB : Hid (Below w.heap.size w (w.alloc (.cells #[.int .u8 (x.toNat : Int)] 5))) := hid ((Below.refl _ w).alloc (Nat.le_refl _) _)
  clear hx hxn
  go_enter Tryz.func79, Tryz.ntmps79
  go_wp2
  go_ret
  exact ⟨rfl, HB.out⟩
set_option maxHeartbeats 2000000 in
theorem rdec_any (u : Nat) (h : u < 100) (w : World) : Calls Tryz.prog 79 #[.int .i64 (u : Int)] w fun e w' => e = .returned (.string (ba (dec2 u))) ∧ Below w.heap.size w w' := by
  by_cases hu : u < 10
  · exact rdec1_any u hu w
  · rw [dec_two u (by omega) h]
    have cA := hid (fun w => rdec1_any (u / 10) (by omega) w)
    have cB := hid (fun w => rdec1_any (u % 10) (by omega) w)
    have l1 := dec2_len (u / 10)
    have l2 := dec2_len (u % 10)
    have s1 := add_ba (dec2 (u / 10)) (dec2 (u % 10)) (by omega)
    have hz : ¬ (u : Int) < 10 := by omega
    have i1 : (u : Int) / 10 = ((u / 10 : Nat) : Int) := by omega
    have i2 : (u : Int) % 10 = ((u % 10 : Nat) : Int) := by omega
    obtain ⟨p, hp⟩ : ∃ p, u / 10 = p := ⟨_, rfl⟩
    obtain ⟨q, hq⟩ : ∃ q, u % 10 = q := ⟨_, rfl⟩
    rw [hp] at cA i1 s1 l1 ⊢
    rw [hq] at cB i2 s1 l2 ⊢
    clear hp hq
    go_enter Tryz.func79, Tryz.ntmps79
    go_wp2_with fail
    refine (cA.out _).mono ?_
    rintro e w1 ⟨rfl, hb1⟩
    have HB1 := hid hb1
    clear hb1
    go_wp2_with fail
    refine (cB.out _).mono ?_
    rintro e w2 ⟨rfl, hb2⟩
    have HB2 := hid (HB1.out.trans (hb2.mono HB1.out.size))
    clear hb2
    go_wp2
    go_ret
    exact ⟨rfl, HB2.out⟩
end Go.Proofs.YtnpfmoalgphkcaaGreatDoor
