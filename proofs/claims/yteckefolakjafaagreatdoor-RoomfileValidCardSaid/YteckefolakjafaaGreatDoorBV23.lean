/-
  Decimals of numbers below 10000, by the specification and by the library. Conditions: the library's table holds what its text lays.
  How two times of the week stand to each other, and when a slot begins: Between, Overlap, Before, Clock of timegrid. Conditions: the starts are numbers of 64 bits.
  DERIVED: THE SHELF's CONTRACTS AT THIS DUMP, IN PLAIN WORDS (tools/lay-plain.mjs out of 'TryzShelfS.lean', which tools/lay-shelf.mjs wrote): THE SAME DECLARATIONS UNDER THE SAME NAMES: 'import', 'namespace', 'open', 'def', 'theorem' AND NOTHING ELSE: no command of the shelf's: FOR A HAND-IN. Each laying: the table of numbers ('.._ren') and one theorem, a field a fact of the dump's own or the kernel's comparison; each contract: ONE APPLICATION.
  A predicate on times, asked of a list of them (slices.ContainsFunc): which do not fit, which overlap another one. Conditions: the times lie in memory.
-/
import Derived.Test.YteckefolakjafaaGreatDoorBV20
import Derived.Test.YteckefolakjafaaGreatDoorBV10
import Derived.Test.YteckefolakjafaaGreatDoorBV09
import Derived.Test.YteckefolakjafaaGreatDoorBV16
import Derived.Test.YteckefolakjafaaGreatDoorProg
import Derived.Test.YteckefolakjafaaGreatDoorBV15
import Derived.Lib.AppendIntMem
import Derived.Shelf.SlGeneric
import Derived.Shelf.SlicesQ.IndexFunc
set_option linter.unusedVariables false
namespace Go.Proofs.YteckefolakjafaaGreatDoor
open Go Go.Proofs Go.RowKit Go.Lib

theorem dd_step (u : Nat) (h : ¬ u < 10) : decDigits u = decDigits (u / 10) ++ decDigits (u % 10) := by
  rw [decDigits, dif_neg h, decDigits_one (show u % 10 < 10 by omega)]
theorem dd_len : ∀ (f u : Nat), u < 10 ^ (f + 1) → (decDigits u).length ≤ f + 1
  | 0, u, h => by rw [decDigits_one (by simpa using h)]; simp
  | f + 1, u, h => by
    by_cases hu : u < 10
    · rw [decDigits_one hu]; simp
    · rw [dd_step u hu, List.length_append, decDigits_one (show u % 10 < 10 by omega)]
      have := dd_len f (u / 10) (by rw [Nat.div_lt_iff_lt_mul (by omega)]; rw [Nat.pow_succ] at h; exact h)
      simp
      omega
set_option maxHeartbeats 2000000 in
set_option maxRecDepth 100000 in
theorem rdecG : ∀ (f u : Nat), f ≤ 10 → u < 10 ^ (f + 1) → ∀ w : World, Calls Tryz.prog 17 #[.int .i64 (u : Int)] w fun e w' => e = .returned (.string (ba (decDigits u))) ∧ Below w.heap.size w w'
  | 0, u, _, h => fun w => by
    have hu : u < 10 := by simpa using h
    rw [decDigits_one hu, ← dec_one u hu]
    exact rdec1_any u hu w
  | f + 1, u, hf, h => fun w => by
    by_cases hu : u < 10
    · rw [decDigits_one hu, ← dec_one u hu]
      exact rdec1_any u hu w
    · rw [dd_step u hu]
      have h10 : u / 10 < 10 ^ (f + 1) := by rw [Nat.div_lt_iff_lt_mul (by omega)]; rw [Nat.pow_succ] at h; exact h
      have hub : u < 1000000000000 := Nat.lt_of_lt_of_le h (Nat.le_trans (Nat.pow_le_pow_right (by omega) (show f + 1 + 1 ≤ 12 by omega)) (by decide))
      have cA := hid (fun w => rdecG f (u / 10) (by omega) h10 w)
      have cB : Hid (∀ w : World, Calls Tryz.prog 17 #[.int .i64 ((u % 10 : Nat) : Int)] w fun e w' => e = .returned (.string (ba (decDigits (u % 10)))) ∧ Below w.heap.size w w') := hid (fun w => by
        rw [decDigits_one (show u % 10 < 10 by omega), ← dec_one (u % 10) (by omega)]
        exact rdec1_any (u % 10) (by omega) w)
      have l1 := dd_len f (u / 10) h10
      have l2 : (decDigits (u % 10)).length ≤ 1 := by rw [decDigits_one (show u % 10 < 10 by omega)]; simp
      have s1 := add_ba (decDigits (u / 10)) (decDigits (u % 10)) (by omega)
      have hz : ¬ (u : Int) < 10 := by omega
      have i1 : (u : Int) / 10 = ((u / 10 : Nat) : Int) := by omega
      have i2 : (u : Int) % 10 = ((u % 10 : Nat) : Int) := by omega
      obtain ⟨p, hp⟩ : ∃ p, u / 10 = p := ⟨_, rfl⟩
      obtain ⟨q, hq⟩ : ∃ q, u % 10 = q := ⟨_, rfl⟩
      rw [hp] at cA i1 s1 l1 ⊢
      rw [hq] at cB i2 s1 l2 ⊢
      clear hp hq h10 h
      go_enter Tryz.func17, Tryz.ntmps17
      go_wp2_with fail
      refine (cA.out _).mono ?_
      rintro e w1 ⟨rfl, hb1⟩
      have HB1 := hid hb1
      clear hb1
      go_wp2_with fail
      refine (cB.out _).mono ?_
      rintro e w2 ⟨rfl, hb2⟩
      have HB2 := hid (HB1.out.trans (hb2.mono HB1.out.size))
      clear hb2
      go_wp2
      go_ret
      exact ⟨rfl, HB2.out⟩
theorem rdec4_any (n : Int) (h0 : 0 ≤ n) (h1 : n ≤ 9999) (w : World) : Calls Tryz.prog 17 #[.int .i64 n] w (Says (.string (ba (decDigits n.toNat))) w) := by
  have := rdecG 3 n.toNat (by omega) (by omega) w
  rwa [Int.toNat_of_nonneg h0] at this
theorem itoa4_any (n : Int) (h0 : 0 ≤ n) (h1 : n ≤ 9999) (w : World) (hE : S3.Env w) : Calls Tryz.prog 36 #[.int .i64 n] w (Says (.string (ba (decDigits n.toNat))) w) := by
  refine (Tryz.strconv_Itoa n (by omega) (by omega) w hE.tab).mono ?_
  rintro e w' ⟨rfl, k, os, rfl⟩
  refine ⟨?_, ?_⟩
  · rw [show Lib.itoa n = decDigits n.toNat from if_neg (by omega)]
    rfl
  · exact Lib.below_grow _ _ (Nat.le_refl _) _ _
end Go.Proofs.YteckefolakjafaaGreatDoor

set_option linter.unusedVariables false
namespace Go.Proofs.YteckefolakjafaaGreatDoor
open Go Go.Proofs Go.RowKit Go.Lib

theorem meet_no {k y t l k' y' t' l' : Int} (h : ¬ (soundB k y t l = true ∧ soundB k' y' t' l' = true ∧ bits .and .i64 k k' ≠ 0 ∧ y = y')) : betM k y t l k' y' t' l' = (0, false) := by
  unfold betM
  rw [show meetB k y t l k' y' t' l' = false from decide_eq_false h, if_neg (by simp)]
theorem meet_yes {k y t l k' y' t' l' : Int} (h : soundB k y t l = true ∧ soundB k' y' t' l' = true ∧ bits .and .i64 k k' ≠ 0 ∧ y = y') : betM k y t l k' y' t' l' = (gapI t l t' l', true) := by
  unfold betM
  rw [show meetB k y t l k' y' t' l' = true from decide_eq_true h, if_pos rfl]
set_option maxHeartbeats 8000000 in
set_option maxRecDepth 100000 in
theorem between_any (k y t l k' y' t' l' : Int) (ht : t ≤ 9223372036854775807) (ht' : t' ≤ 9223372036854775807) (w : World) :
    Calls Tryz.prog 74 #[.agg #[.int .i64 k, .int .i64 y, .int .i64 t, .int .i64 l], .agg #[.int .i64 k', .int .i64 y', .int .i64 t', .int .i64 l']] w (Says (.tuple #[.int .i64 (betM k y t l k' y' t' l').1, .bool (betM k y t l k' y' t' l').2]) w) := by
  have cS := fun w => sound_any k y t l ht w
  have cS2 := fun w => sound_any k' y' t' l' ht' w
  unfold Says at cS cS2 ⊢
  cases hs : soundB k y t l with
  | false =>
    rw [meet_no (fun h => by rw [hs] at h; exact absurd h.1 (by simp))]
    rw [hs] at cS
    clear hs cS2
    have hk := K2.first w k y t l k' y' t' l' 55 55
    have HK := hid hk
    clear hk
    go_enter Tryz.func74, Tryz.ntmps74
    go_wp2_with fail
    refine (cS _).mono ?_
    rintro e w1 ⟨rfl, hb⟩
    have hk := HK.out.next hb
    clear hb HK
    obtain ⟨⟨x0, x1, x2, x3, _⟩, ⟨y0, y1, y2, y3, _⟩, _⟩ := id hk
    go_wp2
    go_ret2
    exact ⟨rfl, hk.b⟩
  | true =>
    rw [hs] at cS
    cases hs2 : soundB k' y' t' l' with
    | false =>
      rw [meet_no (fun h => by rw [hs2] at h; exact absurd h.2.1 (by simp))]
      rw [hs2] at cS2
      clear hs hs2
      have hk := K2.first w k y t l k' y' t' l' 55 55
      have HK := hid hk
      clear hk
      go_enter Tryz.func74, Tryz.ntmps74
      go_wp2_with fail
      refine (cS _).mono ?_
      rintro e w1 ⟨rfl, hb⟩
      have hk := HK.out.next hb
      clear hb HK
      obtain ⟨⟨x0, x1, x2, x3, _⟩, ⟨y0, y1, y2, y3, _⟩, _⟩ := id hk
      go_wp2_with fail
      refine (cS2 _).mono ?_
      rintro e w1 ⟨rfl, hb⟩
      have hk := hk.next hb
      clear hb
      obtain ⟨⟨x0, x1, x2, x3, _⟩, ⟨y0, y1, y2, y3, _⟩, _⟩ := id hk
      go_wp2
      go_ret2
      exact ⟨rfl, hk.b⟩
    | true =>
      rw [hs2] at cS2
      by_cases hw : bits .and .i64 k k' = 0
      · rw [meet_no (fun h => h.2.2.1 hw)]
        clear hs hs2
        have hk := K2.first w k y t l k' y' t' l' 55 55
        have HK := hid hk
        clear hk
        go_enter Tryz.func74, Tryz.ntmps74
        go_wp2_with fail
        refine (cS _).mono ?_
        rintro e w1 ⟨rfl, hb⟩
        have hk := HK.out.next hb
        clear hb HK
        obtain ⟨⟨x0, x1, x2, x3, _⟩, ⟨y0, y1, y2, y3, _⟩, _⟩ := id hk
        go_wp2_with fail
        refine (cS2 _).mono ?_
        rintro e w1 ⟨rfl, hb⟩
        have hk := hk.next hb
        clear hb
        obtain ⟨⟨x0, x1, x2, x3, _⟩, ⟨y0, y1, y2, y3, _⟩, _⟩ := id hk
        go_wp2
        go_ret2
        exact ⟨rfl, hk.b⟩
      · have hw' : (bits .and .i64 k k' == 0) = false := by simpa using hw
        by_cases hy : y = y'
        · rw [meet_yes ⟨hs, hs2, hw, hy⟩]
          have hyd : (y != y') = false := by simpa using hy
          clear hy
          obtain ⟨s1, s2, s3, s4, s5⟩ := sound_of hs
          obtain ⟨r1, r2, r3, r4, r5⟩ := sound_of hs2
          have cE := fun w => endOf_any k y t l s3 (by omega) (by omega) (by omega) w
          have cE2 := fun w => endOf_any k' y' t' l' r3 (by omega) (by omega) (by omega) w
          unfold Says at cE cE2
          clear hs hs2 hw
          have four : ∃ D, max t t' - min (t + l) (t' + l') = D ∧ gapI t l t' l' = max D (-1) ∧ IntKind.i64.wrap D = D := by
            refine ⟨_, rfl, rfl, IntWalk.i64_in _ ?_⟩
            omega
          obtain ⟨D, hD, hG, hWD⟩ := four
          rw [hG]
          have hk := K2.first w k y t l k' y' t' l' 55 55
          have HK := hid hk
          clear hk
          go_enter Tryz.func74, Tryz.ntmps74
          go_wp2_with fail
          refine (cS _).mono ?_
          rintro e w1 ⟨rfl, hb⟩
          have hk := HK.out.next hb
          clear hb HK
          obtain ⟨⟨x0, x1, x2, x3, _⟩, ⟨y0, y1, y2, y3, _⟩, _⟩ := id hk
          go_wp2_with fail
          refine (cS2 _).mono ?_
          rintro e w1 ⟨rfl, hb⟩
          have hk := hk.next hb
          clear hb
          obtain ⟨⟨x0, x1, x2, x3, _⟩, ⟨y0, y1, y2, y3, _⟩, _⟩ := id hk
          go_wp2_with fail
          clear x0 x1 x2 x3 y0 y1 y2 y3
          refine wp_region_held_drew (S := K2 w k y t l k' y' t' l') (by kernel_rfl) hk.drew (fun hHeld => ?_)
          first
            | (refine wpAnyH_take (i := 0) (oi := _) (v := undef) rfl (by kernel_rfl) (by kernel_rfl) (by kernel_rfl) (fun _ _ _ h => h) (Or.inr ⟨by rfl, rfl⟩) (by assumption) ?_)
            | (refine wpAnyH_take (i := 0) (oi := _) (v := ?_) rfl (by kernel_rfl) (by kernel_rfl) (by kernel_rfl) (fun _ _ _ h => h) (Or.inl ⟨by rfl, ?_⟩) (by assumption) ?_; rotate_left; (intro wS hSw; obtain ⟨⟨x0, x1, x2, x3, _⟩, ⟨y0, y1, y2, y3, _⟩, _⟩ := hSw; (try simp only [List.getElem_toArray, List.getElem_cons_succ, List.getElem_cons_zero]); go_simp; (try with_reducible rfl)))
          try simp only [List.getElem_toArray, List.getElem_cons_succ, List.getElem_cons_zero, Act.put, List.setIfInBounds_toArray, List.set_cons_zero, List.set_cons_succ]
          first
            | (refine wpAnyH_take (i := 1) (oi := _) (v := undef) rfl (by kernel_rfl) (by kernel_rfl) (by kernel_rfl) (fun _ _ _ h => h) (Or.inr ⟨by rfl, rfl⟩) (by assumption) ?_)
            | (refine wpAnyH_take (i := 1) (oi := _) (v := ?_) rfl (by kernel_rfl) (by kernel_rfl) (by kernel_rfl) (fun _ _ _ h => h) (Or.inl ⟨by rfl, ?_⟩) (by assumption) ?_; rotate_left; (intro wS hSw; obtain ⟨⟨x0, x1, x2, x3, _⟩, ⟨y0, y1, y2, y3, _⟩, _⟩ := hSw; (try simp only [List.getElem_toArray, List.getElem_cons_succ, List.getElem_cons_zero]); go_simp; (try with_reducible rfl)))
          try simp only [List.getElem_toArray, List.getElem_cons_succ, List.getElem_cons_zero, Act.put, List.setIfInBounds_toArray, List.set_cons_zero, List.set_cons_succ]
          first
            | (refine wpAnyH_take (i := 2) (oi := _) (v := undef) rfl (by kernel_rfl) (by kernel_rfl) (by kernel_rfl) (fun _ _ _ h => h) (Or.inr ⟨by rfl, rfl⟩) (by assumption) ?_)
            | (refine wpAnyH_take (i := 2) (oi := _) (v := ?_) rfl (by kernel_rfl) (by kernel_rfl) (by kernel_rfl) (fun _ _ _ h => h) (Or.inl ⟨by rfl, ?_⟩) (by assumption) ?_; rotate_left; (intro wS hSw; obtain ⟨⟨x0, x1, x2, x3, _⟩, ⟨y0, y1, y2, y3, _⟩, _⟩ := hSw; (try simp only [List.getElem_toArray, List.getElem_cons_succ, List.getElem_cons_zero]); go_simp; (try with_reducible rfl)))
          try simp only [List.getElem_toArray, List.getElem_cons_succ, List.getElem_cons_zero, Act.put, List.setIfInBounds_toArray, List.set_cons_zero, List.set_cons_succ]
          first
            | (refine wpAnyH_take (i := 3) (oi := _) (v := undef) rfl (by kernel_rfl) (by kernel_rfl) (by kernel_rfl) (fun _ _ _ h => h) (Or.inr ⟨by rfl, rfl⟩) (by assumption) ?_)
            | (refine wpAnyH_take (i := 3) (oi := _) (v := ?_) rfl (by kernel_rfl) (by kernel_rfl) (by kernel_rfl) (fun _ _ _ h => h) (Or.inl ⟨by rfl, ?_⟩) (by assumption) ?_; rotate_left; (intro wS hSw; obtain ⟨⟨x0, x1, x2, x3, _⟩, ⟨y0, y1, y2, y3, _⟩, _⟩ := hSw; (try simp only [List.getElem_toArray, List.getElem_cons_succ, List.getElem_cons_zero]); go_simp; (try with_reducible rfl)))
          try simp only [List.getElem_toArray, List.getElem_cons_succ, List.getElem_cons_zero, Act.put, List.setIfInBounds_toArray, List.set_cons_zero, List.set_cons_succ]
          first
            | (refine wpAnyH_take (i := 4) (oi := _) (v := undef) rfl (by kernel_rfl) (by kernel_rfl) (by kernel_rfl) (fun _ _ _ h => h) (Or.inr ⟨by rfl, rfl⟩) (by assumption) ?_)
            | (refine wpAnyH_take (i := 4) (oi := _) (v := ?_) rfl (by kernel_rfl) (by kernel_rfl) (by kernel_rfl) (fun _ _ _ h => h) (Or.inl ⟨by rfl, ?_⟩) (by assumption) ?_; rotate_left; (intro wS hSw; obtain ⟨⟨x0, x1, x2, x3, _⟩, ⟨y0, y1, y2, y3, _⟩, _⟩ := hSw; (try simp only [List.getElem_toArray, List.getElem_cons_succ, List.getElem_cons_zero]); go_simp; (try with_reducible rfl)))
          try simp only [List.getElem_toArray, List.getElem_cons_succ, List.getElem_cons_zero, Act.put, List.setIfInBounds_toArray, List.set_cons_zero, List.set_cons_succ]
          first
            | (refine wpAnyH_take (i := 5) (oi := _) (v := undef) rfl (by kernel_rfl) (by kernel_rfl) (by kernel_rfl) (fun _ _ _ h => h) (Or.inr ⟨by rfl, rfl⟩) (by assumption) ?_)
            | (refine wpAnyH_take (i := 5) (oi := _) (v := ?_) rfl (by kernel_rfl) (by kernel_rfl) (by kernel_rfl) (fun _ _ _ h => h) (Or.inl ⟨by rfl, ?_⟩) (by assumption) ?_; rotate_left; (intro wS hSw; obtain ⟨⟨x0, x1, x2, x3, _⟩, ⟨y0, y1, y2, y3, _⟩, _⟩ := hSw; (try simp only [List.getElem_toArray, List.getElem_cons_succ, List.getElem_cons_zero]); go_simp; (try with_reducible rfl)))
          try simp only [List.getElem_toArray, List.getElem_cons_succ, List.getElem_cons_zero, Act.put, List.setIfInBounds_toArray, List.set_cons_zero, List.set_cons_succ]
          first
            | (refine wpAnyH_take (i := 7) (oi := _) (v := undef) rfl (by kernel_rfl) (by kernel_rfl) (by kernel_rfl) (fun _ _ _ h => h) (Or.inr ⟨by rfl, rfl⟩) (by assumption) ?_)
            | (refine wpAnyH_take (i := 7) (oi := _) (v := ?_) rfl (by kernel_rfl) (by kernel_rfl) (by kernel_rfl) (fun _ _ _ h => h) (Or.inl ⟨by rfl, ?_⟩) (by assumption) ?_; rotate_left; (intro wS hSw; obtain ⟨⟨x0, x1, x2, x3, _⟩, ⟨y0, y1, y2, y3, _⟩, _⟩ := hSw; (try simp only [List.getElem_toArray, List.getElem_cons_succ, List.getElem_cons_zero]); go_simp; (try with_reducible rfl)))
          try simp only [List.getElem_toArray, List.getElem_cons_succ, List.getElem_cons_zero, Act.put, List.setIfInBounds_toArray, List.set_cons_zero, List.set_cons_succ]
          first
            | (refine wpAnyH_take (i := 6) (oi := _) (v := undef) rfl (by kernel_rfl) (by kernel_rfl) (by kernel_rfl) (fun _ _ _ h => h) (Or.inr ⟨by rfl, rfl⟩) (by assumption) ?_)
            | (refine wpAnyH_ready (rs := [6]) (by kernel_rfl) (by simp) ?_; refine AllReadyH.cons (o := _) rfl (fun K hK => ?_) AllReadyH.nil; (try simp only [List.getElem_toArray, List.getElem_cons_succ, List.getElem_cons_zero]); go_simp; go_at_call 80; refine (cE _).mono ?_; rintro e w1 ⟨rfl, hb⟩; have hk2 := hHeld.next hb; clear hb hHeld; have hHeld := hk2; clear hk2; skip; go_wp2_with fail; refine hK.out _ _ hHeld (fun hHeld => ?_); clear hK K)
          try simp only [List.getElem_toArray, List.getElem_cons_succ, List.getElem_cons_zero, Act.put, List.setIfInBounds_toArray, List.set_cons_zero, List.set_cons_succ]
          first
            | (refine wpAnyH_take (i := 8) (oi := _) (v := undef) rfl (by kernel_rfl) (by kernel_rfl) (by kernel_rfl) (fun _ _ _ h => h) (Or.inr ⟨by rfl, rfl⟩) (by assumption) ?_)
            | (refine wpAnyH_ready (rs := [8]) (by kernel_rfl) (by simp) ?_; refine AllReadyH.cons (o := _) rfl (fun K hK => ?_) AllReadyH.nil; (try simp only [List.getElem_toArray, List.getElem_cons_succ, List.getElem_cons_zero]); go_simp; go_at_call 80; refine (cE2 _).mono ?_; rintro e w1 ⟨rfl, hb⟩; have hk2 := hHeld.next hb; clear hb hHeld; have hHeld := hk2; clear hk2; skip; go_wp2_with fail; refine hK.out _ _ hHeld (fun hHeld => ?_); clear hK K)
          try simp only [List.getElem_toArray, List.getElem_cons_succ, List.getElem_cons_zero, Act.put, List.setIfInBounds_toArray, List.set_cons_zero, List.set_cons_succ]
          first
            | (refine wpAnyH_take (i := 9) (oi := _) (v := undef) rfl (by kernel_rfl) (by kernel_rfl) (by kernel_rfl) (fun _ _ _ h => h) (Or.inr ⟨by rfl, rfl⟩) (by assumption) ?_)
            | (refine wpAnyH_take (i := 9) (oi := _) (v := ?_) rfl (by kernel_rfl) (by kernel_rfl) (by kernel_rfl) (fun _ _ _ h => h) (Or.inl ⟨by rfl, ?_⟩) (by assumption) ?_; rotate_left; (intro wS hSw; obtain ⟨⟨x0, x1, x2, x3, _⟩, ⟨y0, y1, y2, y3, _⟩, _⟩ := hSw; (try simp only [List.getElem_toArray, List.getElem_cons_succ, List.getElem_cons_zero]); go_simp; (try with_reducible rfl)))
          try simp only [List.getElem_toArray, List.getElem_cons_succ, List.getElem_cons_zero, Act.put, List.setIfInBounds_toArray, List.set_cons_zero, List.set_cons_succ]
          first
            | (refine wpAnyH_take (i := 10) (oi := _) (v := undef) rfl (by kernel_rfl) (by kernel_rfl) (by kernel_rfl) (fun _ _ _ h => h) (Or.inr ⟨by rfl, rfl⟩) (by assumption) ?_)
            | (refine wpAnyH_take (i := 10) (oi := _) (v := ?_) rfl (by kernel_rfl) (by kernel_rfl) (by kernel_rfl) (fun _ _ _ h => h) (Or.inl ⟨by rfl, ?_⟩) (by assumption) ?_; rotate_left; (intro wS hSw; obtain ⟨⟨x0, x1, x2, x3, _⟩, ⟨y0, y1, y2, y3, _⟩, _⟩ := hSw; (try simp only [List.getElem_toArray, List.getElem_cons_succ, List.getElem_cons_zero]); go_simp; (try with_reducible rfl)))
          try simp only [List.getElem_toArray, List.getElem_cons_succ, List.getElem_cons_zero, Act.put, List.setIfInBounds_toArray, List.set_cons_zero, List.set_cons_succ]
          first
            | (refine wpAnyH_take (i := 11) (oi := _) (v := undef) rfl (by kernel_rfl) (by kernel_rfl) (by kernel_rfl) (fun _ _ _ h => h) (Or.inr ⟨by rfl, rfl⟩) (by assumption) ?_)
            | (refine wpAnyH_take (i := 11) (oi := _) (v := ?_) rfl (by kernel_rfl) (by kernel_rfl) (by kernel_rfl) (fun _ _ _ h => h) (Or.inl ⟨by rfl, ?_⟩) (by assumption) ?_; rotate_left; (intro wS hSw; obtain ⟨⟨x0, x1, x2, x3, _⟩, ⟨y0, y1, y2, y3, _⟩, _⟩ := hSw; (try simp only [List.getElem_toArray, List.getElem_cons_succ, List.getElem_cons_zero]); go_simp; (try with_reducible rfl)))
          try simp only [List.getElem_toArray, List.getElem_cons_succ, List.getElem_cons_zero, Act.put, List.setIfInBounds_toArray, List.set_cons_zero, List.set_cons_succ]
          first
            | (refine wpAnyH_take (i := 12) (oi := _) (v := undef) rfl (by kernel_rfl) (by kernel_rfl) (by kernel_rfl) (fun _ _ _ h => h) (Or.inr ⟨by rfl, rfl⟩) (by assumption) ?_)
            | (refine wpAnyH_take (i := 12) (oi := _) (v := ?_) rfl (by kernel_rfl) (by kernel_rfl) (by kernel_rfl) (fun _ _ _ h => h) (Or.inl ⟨by rfl, ?_⟩) (by assumption) ?_; rotate_left; (intro wS hSw; obtain ⟨⟨x0, x1, x2, x3, _⟩, ⟨y0, y1, y2, y3, _⟩, _⟩ := hSw; (try simp only [List.getElem_toArray, List.getElem_cons_succ, List.getElem_cons_zero]); go_simp; (try with_reducible rfl)))
          try simp only [List.getElem_toArray, List.getElem_cons_succ, List.getElem_cons_zero, Act.put, List.setIfInBounds_toArray, List.set_cons_zero, List.set_cons_succ]
          first
            | (refine wpAnyH_take (i := 13) (oi := _) (v := undef) rfl (by kernel_rfl) (by kernel_rfl) (by kernel_rfl) (fun _ _ _ h => h) (Or.inr ⟨by rfl, rfl⟩) (by assumption) ?_)
            | (refine wpAnyH_take (i := 13) (oi := _) (v := ?_) rfl (by kernel_rfl) (by kernel_rfl) (by kernel_rfl) (fun _ _ _ h => h) (Or.inl ⟨by rfl, ?_⟩) (by assumption) ?_; rotate_left; (intro wS hSw; obtain ⟨⟨x0, x1, x2, x3, _⟩, ⟨y0, y1, y2, y3, _⟩, _⟩ := hSw; (try simp only [List.getElem_toArray, List.getElem_cons_succ, List.getElem_cons_zero]); go_simp; (try with_reducible rfl)))
          try simp only [List.getElem_toArray, List.getElem_cons_succ, List.getElem_cons_zero, Act.put, List.setIfInBounds_toArray, List.set_cons_zero, List.set_cons_succ]
          refine wpAnyH_done (by kernel_rfl) ?_ _
          go_wp2
          go_ret2
          exact ⟨rfl, hHeld.b⟩
        · rw [meet_no (fun h => hy h.2.2.2)]
          have hy' : (y != y') = true := by simpa using hy
          clear hs hs2 hw
          have hk := K2.first w k y t l k' y' t' l' 55 55
          have HK := hid hk
          clear hk
          go_enter Tryz.func74, Tryz.ntmps74
          go_wp2_with fail
          refine (cS _).mono ?_
          rintro e w1 ⟨rfl, hb⟩
          have hk := HK.out.next hb
          clear hb HK
          obtain ⟨⟨x0, x1, x2, x3, _⟩, ⟨y0, y1, y2, y3, _⟩, _⟩ := id hk
          go_wp2_with fail
          refine (cS2 _).mono ?_
          rintro e w1 ⟨rfl, hb⟩
          have hk := hk.next hb
          clear hb
          obtain ⟨⟨x0, x1, x2, x3, _⟩, ⟨y0, y1, y2, y3, _⟩, _⟩ := id hk
          go_wp2
          go_ret2
          exact ⟨rfl, hk.b⟩
set_option maxHeartbeats 2000000 in
theorem overlap_any (k y t l k' y' t' l' : Int) (ht : t ≤ 9223372036854775807) (ht' : t' ≤ 9223372036854775807) (w : World) :
    Calls Tryz.prog 42 #[.agg #[.int .i64 k, .int .i64 y, .int .i64 t, .int .i64 l], .agg #[.int .i64 k', .int .i64 y', .int .i64 t', .int .i64 l']] w (Says (.bool (overB k y t l k' y' t' l')) w) := by
  have cB := fun w => between_any k y t l k' y' t' l' ht ht' w
  unfold Says overB at *
  generalize betM k y t l k' y' t' l' = R at cB ⊢
  obtain ⟨N, O⟩ := R
  dsimp only at cB ⊢
  cases O with
  | false =>
    have hk := K2.first w k y t l k' y' t' l' 55 55
    have HK := hid hk
    clear hk
    go_enter Tryz.func42, Tryz.ntmps42
    go_wp2_with fail
    refine (cB _).mono ?_
    rintro e w1 ⟨rfl, hb⟩
    have hk := HK.out.next hb
    clear hb HK
    go_wp2
    go_ret
    exact ⟨rfl, hk.b⟩
  | true =>
    rw [Bool.true_and]
    by_cases hn : N < 0
    · have hnd : decide (N < 0) = true := decide_eq_true hn
      rw [hnd]
      have hk := K2.first w k y t l k' y' t' l' 55 55
      have HK := hid hk
      clear hk
      go_enter Tryz.func42, Tryz.ntmps42
      go_wp2_with fail
      refine (cB _).mono ?_
      rintro e w1 ⟨rfl, hb⟩
      have hk := HK.out.next hb
      clear hb HK
      go_wp2
      go_ret
      exact ⟨rfl, hk.b⟩
    · have hnd : decide (N < 0) = false := decide_eq_false hn
      rw [hnd]
      have hk := K2.first w k y t l k' y' t' l' 55 55
      have HK := hid hk
      clear hk
      go_enter Tryz.func42, Tryz.ntmps42
      go_wp2_with fail
      refine (cB _).mono ?_
      rintro e w1 ⟨rfl, hb⟩
      have hk := HK.out.next hb
      clear hb HK
      go_wp2
      go_ret
      exact ⟨rfl, hk.b⟩
end Go.Proofs.YteckefolakjafaaGreatDoor

namespace Go.Proofs
open Go.Shelf
def Tryz.laysContainsF_ren : Go.Shelf.Ren := ⟨fun | 8 => 43 | 6 => 75 | n => n, fun | 22 => 44 | 23 => 55 | 25 => 83 | 4 => 4 | 3 => 3 | 0 => 0 | n => n, fun | n => n⟩
theorem Tryz.laysContainsF : Go.Proofs.SlLaysH0.n8 Tryz.prog Tryz.laysContainsF_ren := {
  mixed := by kernel_rfl
  f6 := ⟨Tryz.f75.name, by decide, Tryz.func75.trans (congrArg some (by kernel_rfl))⟩
  f8 := ⟨Tryz.f43.name, by decide, Tryz.func43.trans (congrArg some (by kernel_rfl))⟩
  t0 := Tryz.underlying0
  a0 := Tryz.isAgg0
  z0 := Tryz.sizeOf0
  v0 := Tryz.zeroValue0
  t3 := Tryz.underlying3
  a3 := Tryz.isAgg3
  z3 := Tryz.sizeOf3
  v3 := Tryz.zeroValue3
  t4 := Tryz.underlying4
  a4 := Tryz.isAgg4
  z4 := Tryz.sizeOf4
  v4 := Tryz.zeroValue4
  t22 := Tryz.underlying44
  a22 := Tryz.isAgg44
  z22 := Tryz.sizeOf44
  v22 := Tryz.zeroValue44
  t25 := Tryz.underlying83
  a25 := Tryz.isAgg83
  z25 := Tryz.sizeOf83
  v25 := Tryz.zeroValue83 }
end Go.Proofs

set_option linter.unusedVariables false
namespace Go.Proofs.YteckefolakjafaaGreatDoor
open Go Go.Proofs Go.RowKit Go.Lib

abbrev TimeF := {t : TimeD // t.2.2.1 ≤ 9223372036854775807}
instance instTimeF : Inhabited TimeF := ⟨⟨(0, 0, 0, 0), by decide⟩⟩
def encT (x : TimeF) : List Value := timeVs x.1
def listF (l : List TimeD) (h : ∀ t ∈ l, t.2.2.1 ≤ 9223372036854775807) : List TimeF := l.pmap (fun t ht => ⟨t, ht⟩) h
theorem listF_len (l : List TimeD) (h) : (listF l h).length = l.length := List.length_pmap
theorem listF_any (l : List TimeD) (h) (p : TimeD → Bool) : (listF l h).any (fun x => p x.1) = l.any p := by
  induction l with
  | nil => rfl
  | cons a r ih =>
    have := ih (fun t ht => h t (by simp [ht]))
    simp only [listF, List.pmap, List.any_cons] at this ⊢
    rw [this]

set_option maxHeartbeats 1000000 in
/-- ContainsFunc of no times. -/
theorem anyT_nil (A : Option Addr) (c : Nat) (f : Value) (w : World) : Calls Tryz.prog 43 #[.slice A 0 c, f] w fun e w' => e = .returned (.bool false) ∧ Below w.heap.size w w' := by
  have cI : ∀ w, Calls Tryz.prog 75 #[.slice A 0 c, f] w fun e w' => e = .returned (.int .i64 (-1)) ∧ w = w' := fun w => by
    go_enter Tryz.func75, Tryz.ntmps75
    go_wp2
    go_loop [5, 8] (fun _ iv => iv = .int .i64 0) (fun _ _ => 0)
    case atStart => rfl
    case round =>
      subst hrel
      go_wp2
      go_ret
      exact ⟨rfl, rfl⟩
  go_enter Tryz.func43, Tryz.ntmps43
  go_wp2_with fail
  refine (cI _).mono ?_
  rintro e w' ⟨rfl, rfl⟩
  go_wp2
  go_ret
  exact ⟨rfl, Below.refl _ _⟩

theorem egUnfit : ∀ args w, (callFunc 45 args).run Tryz.prog w = .ok (.enter 45 args) w := enters_of Tryz.func45 (by kernel_rfl) rfl
theorem egOpen : ∀ args w, (callFunc 41 args).run Tryz.prog w = .ok (.enter 41 args) w := enters_of Tryz.func41 (by kernel_rfl) rfl
set_option maxHeartbeats 2000000 in
/-- The program's closure that tells which times do not fit. -/
theorem pred_unfit (d s b m n : Int) (G N : Nat) (w : World) (hG : Box4 w G d s b m) (hN : w.cell? ⟨N, 0, none⟩ = some (.int .i64 n)) (hNl : N < w.heap.size) :
    PredBelow Tryz.prog 45 #[.pointer (some ⟨G, 0, none⟩), .pointer (some ⟨N, 0, none⟩)] (fun x : TimeF => .agg (encT x).toArray) (fun x => unfitB d s b m n x.1) w := fun W x hb => by
  obtain ⟨⟨k, y, t, l⟩, ht⟩ := x
  have cF := fun w => fits_any d s b m n k y t l ht w
  unfold Says at cF
  have hGl := hG.lt
  have hG' := hG.next hb hGl
  have hN' : W.cell? ⟨N, 0, none⟩ = some (.int .i64 n) := (hb.cell (p := ⟨N, 0, none⟩) hNl).trans hN
  obtain ⟨x0, x1, x2, x3, _⟩ := hG'
  have hsW := hb.size
  have hGW : G ≠ W.heap.size := by omega
  have hNW : N ≠ W.heap.size := by omega
  show Calls Tryz.prog 45 #[.agg #[.int .i64 k, .int .i64 y, .int .i64 t, .int .i64 l], .pointer (some ⟨G, 0, none⟩), .pointer (some ⟨N, 0, none⟩)] W _
  show Calls _ _ _ _ fun e w' => e = .returned (.bool (decide (fitsM d s b m n k y t l ≠ 0))) ∧ _
  obtain ⟨F, hF⟩ : ∃ F, fitsM d s b m n k y t l = F := ⟨_, rfl⟩
  rw [hF] at cF ⊢
  have hn1 : (W.alloc (.cells #[.int .i64 k, .int .i64 y, .int .i64 t, .int .i64 l] 55)).cell? ⟨N, 0, none⟩ = some (.int .i64 n) := Lib.cell?_alloc_some _ hN'
  have HB := hid (hb.alloc hb.size (.cells #[.int .i64 k, .int .i64 y, .int .i64 t, .int .i64 l] 55))
  clear hb hF hG hN
  by_cases h0 : F = 0
  · subst h0
    go_enter Tryz.func45, Tryz.ntmps45
    go_wp2_with fail
    refine (cF _).mono ?_
    rintro e w' ⟨rfl, hb2⟩
    have HB2 := hid (HB.out.trans (hb2.mono HB.out.size))
    clear hb2
    go_wp2
    go_ret
    exact ⟨rfl, HB2.out⟩
  · have h1 : (F != 0) = true := by simpa using h0
    have h2 : (F == 0) = false := by simpa using h0
    rw [decide_eq_true h0]
    go_enter Tryz.func45, Tryz.ntmps45
    go_wp2_with fail
    refine (cF _).mono ?_
    rintro e w' ⟨rfl, hb2⟩
    have HB2 := hid (HB.out.trans (hb2.mono HB.out.size))
    clear hb2
    go_wp2
    go_ret
    exact ⟨rfl, HB2.out⟩
end Go.Proofs.YteckefolakjafaaGreatDoor

