/-
  The walk of CalendarTerms: the program and the specification agree on Valid, At, Where and Days, at any term, numbers and time. Conditions: the table of the months' lengths lies in memory as the text says; the holidays lie in memory as a slice of ints.
-/
import Derived.Test.YtkgindnlllhioaaDoorR4
import Derived.Test.YtkgindnlllhioaaDoorAwake
import Derived.Deep.RegionLaw
import Derived.Deep.RegionHeld3
set_option linter.unusedVariables false
namespace Go.Proofs.YtkgindnlllhioaaDoor
open Go Go.Proofs Go.RowKit Go.Lib

/-- What is kept while the statement's calls run: the three boxes, the memory below, the table, the holidays. -/
structure Keep (w : World) (F W : Int) (A : Option Addr) (L : List Int) (c : Nat) (a0 a1 a2 S D T N : Int) (w' : World) : Prop where
  z0 : w'.cell? ⟨w.heap.size, 0, none⟩ = some (.int .i64 F)
  z1 : w'.cell? ⟨w.heap.size, 1, none⟩ = some (.int .i64 W)
  z2 : w'.cell? ⟨w.heap.size, 2, none⟩ = some (.slice A L.length c)
  n0 : w'.cell? ⟨w.heap.size + 1, 0, none⟩ = some (.int .i64 a0)
  n1 : w'.cell? ⟨w.heap.size + 1, 1, none⟩ = some (.int .i64 a1)
  n2 : w'.cell? ⟨w.heap.size + 1, 2, none⟩ = some (.int .i64 a2)
  t0 : w'.cell? ⟨w.heap.size + 2, 0, none⟩ = some (.int .i64 S)
  t1 : w'.cell? ⟨w.heap.size + 2, 1, none⟩ = some (.int .i64 D)
  t2 : w'.cell? ⟨w.heap.size + 2, 2, none⟩ = some (.int .i64 T)
  t3 : w'.cell? ⟨w.heap.size + 2, 3, none⟩ = some (.int .i64 N)
  b : Below w.heap.size w w'
  s : w.heap.size + 3 ≤ w'.heap.size
  s0 : 0 < w.heap.size
  tab : Tab w'
  ints : IntsIn w' w'.heap.size A L
section
variable {w : World} {F W : Int} {A : Option Addr} {L : List Int} {c : Nat} {a0 a1 a2 S D T N : Int} {w' w'' : World}
theorem Keep.next (h : Keep w F W A L c a0 a1 a2 S D T N w') (k : Below w'.heap.size w' w'') : Keep w F W A L c a0 a1 a2 S D T N w'' := by
  have hs := h.s
  have h0 := h.s0
  have kc : ∀ (g o : Nat), g < w.heap.size + 3 → w''.cell? ⟨g, o, none⟩ = w'.cell? ⟨g, o, none⟩ := fun g o hg => k.cell (p := ⟨g, o, none⟩) (by show g < w'.heap.size; omega)
  exact ⟨(kc _ _ (by omega)).trans h.z0, (kc _ _ (by omega)).trans h.z1, (kc _ _ (by omega)).trans h.z2, (kc _ _ (by omega)).trans h.n0, (kc _ _ (by omega)).trans h.n1, (kc _ _ (by omega)).trans h.n2,
    (kc _ _ (by omega)).trans h.t0, (kc _ _ (by omega)).trans h.t1, (kc _ _ (by omega)).trans h.t2, (kc _ _ (by omega)).trans h.t3, h.b.trans (k.mono (by omega)), Nat.le_trans hs k.size, h0,
    h.tab.below k (by omega), (h.ints.below k).mono k.size⟩
theorem Keep.drew (h : Keep w F W A L c a0 a1 a2 S D T N w') : Keep w F W A L c a0 a1 a2 S D T N w'.drew :=
  h.next (Below.refl _ w').drew
end
theorem keep_first (w : World) (F W : Int) (A : Option Addr) (L : List Int) (c : Nat) (a0 a1 a2 S D T N : Int) (hT : Tab w) (h0 : 0 < w.heap.size) (h : IntsIn w w.heap.size A L) :
    Keep w F W A L c a0 a1 a2 S D T N (((w.alloc (.cells #[.int .i64 F, .int .i64 W, .slice A L.length c] 37)).alloc (.cells #[.int .i64 a0, .int .i64 a1, .int .i64 a2] 22)).alloc (.cells #[.int .i64 S, .int .i64 D, .int .i64 T, .int .i64 N] 39)) := by
  have e1 := heap_alloc_new w (.cells #[.int .i64 F, .int .i64 W, .slice A L.length c] 37)
  have b1 : Below w.heap.size w (w.alloc (.cells #[.int .i64 F, .int .i64 W, .slice A L.length c] 37)) := (Below.refl _ w).alloc (Nat.le_refl _) _
  have s1 : (w.alloc (.cells #[.int .i64 F, .int .i64 W, .slice A L.length c] 37)).heap.size = w.heap.size + 1 := by simp
  generalize w.alloc (.cells #[.int .i64 F, .int .i64 W, .slice A L.length c] 37) = w1 at e1 b1 s1 ⊢
  have e2 := heap_alloc_new w1 (.cells #[.int .i64 a0, .int .i64 a1, .int .i64 a2] 22)
  have b2 : Below w1.heap.size w1 (w1.alloc (.cells #[.int .i64 a0, .int .i64 a1, .int .i64 a2] 22)) := (Below.refl _ w1).alloc (Nat.le_refl _) _
  have s2 : (w1.alloc (.cells #[.int .i64 a0, .int .i64 a1, .int .i64 a2] 22)).heap.size = w1.heap.size + 1 := by simp
  generalize w1.alloc (.cells #[.int .i64 a0, .int .i64 a1, .int .i64 a2] 22) = w2 at e2 b2 s2 ⊢
  have e3 := heap_alloc_new w2 (.cells #[.int .i64 S, .int .i64 D, .int .i64 T, .int .i64 N] 39)
  have b3 : Below w2.heap.size w2 (w2.alloc (.cells #[.int .i64 S, .int .i64 D, .int .i64 T, .int .i64 N] 39)) := (Below.refl _ w2).alloc (Nat.le_refl _) _
  have s3 : (w2.alloc (.cells #[.int .i64 S, .int .i64 D, .int .i64 T, .int .i64 N] 39)).heap.size = w2.heap.size + 1 := by simp
  generalize w2.alloc (.cells #[.int .i64 S, .int .i64 D, .int .i64 T, .int .i64 N] 39) = w3 at e3 b3 s3 ⊢
  rw [s2, s1] at e3
  rw [s1] at e2
  have f2 := (b3.block (w.heap.size + 1) (by omega)).trans e2
  have f1 := (b3.block w.heap.size (by omega)).trans ((b2.block w.heap.size (by omega)).trans e1)
  have hb : Below w.heap.size w w3 := (b1.trans (b2.mono (by omega))).trans (b3.mono (by omega))
  refine ⟨?_, ?_, ?_, ?_, ?_, ?_, ?_, ?_, ?_, ?_, hb, by omega, h0, hT.below hb h0, (h.below hb).mono (by omega)⟩
  all_goals first | (rw [Lib.cell_of_heap f1]; rfl) | (rw [Lib.cell_of_heap f2]; rfl) | (rw [Lib.cell_of_heap e3]; rfl)

set_option maxHeartbeats 8000000 in
set_option maxRecDepth 100000 in
theorem terms_any (F W : Int) (A : Option Addr) (L : List Int) (c : Nat) (a0 a1 a2 S D T N : Int) (hS : S ≤ 9223372036854775807) (hl : L.length ≤ 9223372036854775807) (w : World) (hT : Tab w) (h0 : 0 < w.heap.size) (h : IntsIn w w.heap.size A L) :
    Calls Tryd.prog 5 #[termV F W A L.length c, .agg #[.int .i64 a0, .int .i64 a1, .int .i64 a2], timeV S D T N] w fun e w' => e = .returned (.bool true) ∧ Below w.heap.size w w' := by
  have cA : Hid (∀ w', Keep w F W A L c a0 a1 a2 S D T N w' → Calls Tryd.prog 18 #[termV F W A L.length c, .int .i64 a0, .int .i64 a1] w' fun e w'' => e = .returned (.tuple #[.int .i64 (Cal.atM F W L a0 a1), .bool (Cal.atB F W L a0 a1)]) ∧ Keep w F W A L c a0 a1 a2 S D T N w'') :=
    hid fun w' k => (at_any F W A L c a0 a1 hl w' k.ints).mono fun e w'' ⟨h1, h2⟩ => ⟨h1, k.next h2⟩
  have cA' : Hid (∀ w', Keep w F W A L c a0 a1 a2 S D T N w' → Calls Tryd.prog 19 #[termV F W A L.length c, .int .i64 a0, .int .i64 a1] w' fun e w'' => e = .returned (.tuple #[.int .i64 (Cal.atM F W L a0 a1), .bool (Cal.atB F W L a0 a1)]) ∧ Keep w F W A L c a0 a1 a2 S D T N w'') :=
    hid fun w' k => (rat_any F W A L c a0 a1 hl w' k.ints).mono fun e w'' ⟨h1, h2⟩ => ⟨h1, k.next h2⟩
  have cW : Hid (∀ w', Keep w F W A L c a0 a1 a2 S D T N w' → Calls Tryd.prog 20 #[termV F W A L.length c, .int .i64 a2] w' fun e w'' => e = .returned (.tuple #[.int .i64 (Cal.whereW F W L a2), .int .i64 (Cal.whereD F W L a2), .bool (Cal.whereB F W L a2)]) ∧ Keep w F W A L c a0 a1 a2 S D T N w'') :=
    hid fun w' k => (where_any F W A L c a2 hl w' k.ints).mono fun e w'' ⟨h1, h2⟩ => ⟨h1, k.next h2⟩
  have cW' : Hid (∀ w', Keep w F W A L c a0 a1 a2 S D T N w' → Calls Tryd.prog 21 #[termV F W A L.length c, .int .i64 a2] w' fun e w'' => e = .returned (.tuple #[.int .i64 (Cal.whereW F W L a2), .int .i64 (Cal.whereD F W L a2), .bool (Cal.whereB F W L a2)]) ∧ Keep w F W A L c a0 a1 a2 S D T N w'') :=
    hid fun w' k => (rwhere_any F W A L c a2 hl w' k.ints).mono fun e w'' ⟨h1, h2⟩ => ⟨h1, k.next h2⟩
  have cV : Hid (∀ w', Keep w F W A L c a0 a1 a2 S D T N w' → Calls Tryd.prog 22 #[termV F W A L.length c] w' fun e w'' => e = .returned (.int .i64 (Cal.validM F W L)) ∧ Keep w F W A L c a0 a1 a2 S D T N w'') :=
    hid fun w' k => (tvalid_any F W A L c hl w' k.ints).mono fun e w'' ⟨h1, h2⟩ => ⟨h1, k.next h2⟩
  have cV' : Hid (∀ w', Keep w F W A L c a0 a1 a2 S D T N w' → Calls Tryd.prog 23 #[termV F W A L.length c] w' fun e w'' => e = .returned (.int .i64 (Cal.validM F W L)) ∧ Keep w F W A L c a0 a1 a2 S D T N w'') :=
    hid fun w' k => (rvalid_any F W A L c hl w' k.ints).mono fun e w'' ⟨h1, h2⟩ => ⟨h1, k.next h2⟩
  obtain ⟨R, hR⟩ : ∃ R, Cal.daysM F W L S D = R := ⟨_, rfl⟩
  have cD : Hid (∀ w', Keep w F W A L c a0 a1 a2 S D T N w' → Calls Tryd.prog 25 #[termV F W A L.length c, timeV S D T N] w' fun e w'' => (∃ B q, e = .returned (.slice B R.length q) ∧ IntsIn w'' w''.heap.size B R) ∧ Keep w F W A L c a0 a1 a2 S D T N w'') :=
    hid fun w' k => (days_any F W A L c S D T N hS hl w' k.ints).mono fun e w'' ⟨⟨v, h1, h3⟩, h2⟩ => by
      rw [hR] at h3
      obtain ⟨B, q, rfl, _, _, h4⟩ := h3.intsIn
      exact ⟨⟨B, q, h1, h4⟩, k.next h2⟩
  have cD' : Hid (∀ w', Keep w F W A L c a0 a1 a2 S D T N w' → ∀ B', IntsIn w' w'.heap.size B' R → Calls Tryd.prog 26 #[termV F W A L.length c, timeV S D T N] w' fun e w'' => (∃ B q, e = .returned (.slice B R.length q) ∧ IntsIn w'' w''.heap.size B R) ∧ Keep w F W A L c a0 a1 a2 S D T N w'' ∧ IntsIn w'' w''.heap.size B' R) :=
    hid fun w' k B' hB' => (rdays_any F W A L c S D T N hS hl w' k.ints).mono fun e w'' ⟨⟨v, h1, h3⟩, h2⟩ => by
      rw [hR] at h3
      obtain ⟨B, q, rfl, _, _, h4⟩ := h3.intsIn
      exact ⟨⟨B, q, h1, h4⟩, k.next h2, (hB'.below h2).mono h2.size⟩
  have hRl : R.length ≤ 9223372036854775807 := by
    rw [← hR]
    unfold Cal.daysM
    split
    · simp
    · have := Cal.daysF_len F W L S D 20; omega
  have cS : Hid (∀ (w' : World) B B' q q', IntsIn w' w'.heap.size B R → IntsIn w' w'.heap.size B' R → Calls Tryd.prog 24 #[.slice B R.length q, .slice B' R.length q'] w' fun e w'' => e = .returned (.bool true) ∧ Below w'.heap.size w' w'') :=
    hid fun w' B B' q q' h1 h2 => (sameInts_any B B' R R q q' _ _ w' h1 h2 hRl).mono fun e w'' ⟨h3, n, h4⟩ => ⟨by simpa using h3, by rw [h4]; exact below_drawn (Below.refl _ _) n⟩
  have cK : Hid (∀ w', Keep w F W A L c a0 a1 a2 S D T N w' → Calls Tryd.prog 14 #[] w' fun e w'' => e = .returned (.bool true) ∧ Keep w F W A L c a0 a1 a2 S D T N w'') :=
    hid fun w' k => (awake_any w' k.tab).mono fun e w'' ⟨h1, h2⟩ => ⟨h1, h2 ▸ k⟩
  have hk := keep_first w F W A L c a0 a1 a2 S D T N hT h0 h
  have HK := hid hk
  obtain ⟨z0, z1, z2, n0, n1, n2, t0, t1, t2, t3, _, _, _, _, _⟩ := hk
  generalize Cal.atM F W L a0 a1 = r1 at cA cA'
  generalize Cal.atB F W L a0 a1 = r2 at cA cA'
  generalize Cal.whereW F W L a2 = r3 at cW cW'
  generalize Cal.whereD F W L a2 = r4 at cW cW'
  generalize Cal.whereB F W L a2 = r5 at cW cW'
  generalize Cal.validM F W L = r6 at cV cV'
  clear hT h0 h hR hRl
  go_enter Tryd.func5, Tryd.ntmps5
  go_wp2_with fail
  refine (cA.out _ HK.out).mono ?_
  rintro e w1 ⟨rfl, hk⟩
  have HK := hid hk
  obtain ⟨z0, z1, z2, n0, n1, n2, t0, t1, t2, t3, _, _, _, _, _⟩ := hk
  go_wp2_with fail
  refine (cA'.out _ HK.out).mono ?_
  rintro e w2 ⟨rfl, hk⟩
  have HK := hid hk
  obtain ⟨z0, z1, z2, n0, n1, n2, t0, t1, t2, t3, _, _, _, _, _⟩ := hk
  go_wp2_with fail
  refine (cW.out _ HK.out).mono ?_
  rintro e w3 ⟨rfl, hk⟩
  have HK := hid hk
  obtain ⟨z0, z1, z2, n0, n1, n2, t0, t1, t2, t3, _, _, _, _, _⟩ := hk
  go_wp2_with fail
  refine (cW'.out _ HK.out).mono ?_
  rintro e w4 ⟨rfl, hk⟩
  have HK := hid hk
  have HKd := hid hk.drew
  obtain ⟨z0, z1, z2, n0, n1, n2, t0, t1, t2, t3, _, _, _, _, _⟩ := hk
  have hk' : Keep w F W A L c a0 a1 a2 S D T N w4.drew := HKd.out
  clear HK HKd cA cA' cW cW'
  go_wp2_with fail
  go_region_held3 (fun w' => w'.cell? ⟨w.heap.size, 0, none⟩ = some (.int .i64 F) ∧ w'.cell? ⟨w.heap.size, 1, none⟩ = some (.int .i64 W) ∧ w'.cell? ⟨w.heap.size, 2, none⟩ = some (.slice A L.length c) ∧ w'.cell? ⟨w.heap.size + 1 + 1, 0, none⟩ = some (.int .i64 S) ∧ w'.cell? ⟨w.heap.size + 1 + 1, 1, none⟩ = some (.int .i64 D) ∧ w'.cell? ⟨w.heap.size + 1 + 1, 2, none⟩ = some (.int .i64 T) ∧ w'.cell? ⟨w.heap.size + 1 + 1, 3, none⟩ = some (.int .i64 N))
    (first | exact ⟨hk'.z0, hk'.z1, hk'.z2, hk'.t0, hk'.t1, hk'.t2, hk'.t3⟩)
    (first
    | (go_at_call 14; refine (cK.out _ hk').mono ?_; rintro e w' ⟨rfl, hk'⟩)
    | (go_at_call 22; refine (cV.out _ hk').mono ?_; rintro e w' ⟨rfl, hk'⟩)
    | (go_at_call 23; refine (cV'.out _ hk').mono ?_; rintro e w' ⟨rfl, hk'⟩)
    | (go_at_call 25; refine (cD.out _ hk').mono ?_; rintro e w' ⟨⟨B1, q1, rfl, hI1⟩, hk'⟩)
    | (go_at_call 26; refine (cD'.out _ hk' _ hI1).mono ?_; rintro e w' ⟨⟨B2, q2, rfl, hI2⟩, hk', hI1⟩)
    | (go_at_call 24; refine (cS.out _ _ _ _ _ hI1 hI2).mono ?_; rintro e w' ⟨rfl, hb'⟩; have hk' := hk'.next hb'))
  all_goals go_wp2
  all_goals go_ret
  all_goals exact ⟨rfl, hk'.b⟩
end Go.Proofs.YtkgindnlllhioaaDoor
