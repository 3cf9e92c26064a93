/-
  The walk of TimegridTimes: the program and the specification agree on Valid, Sound, Fits, Overlap, Between and Before. Conditions: the variables hold what their text lays; the starts are numbers of 64 bits.
-/
import Derived.Test.YtaijbdknaeeoeaaDoorAw
import Derived.Test.YtaijbdknaeeoeaaDoorG4
import Derived.BigRegion
import Derived.Deep.RegionLaw
import Derived.Deep.DeepCutAuto
import Derived.Deep.CutBlock
set_option linter.unusedVariables false
namespace Go.Proofs.YtaijbdknaeeoeaaDoor
open Go Go.Proofs Go.RowKit Go.Lib

/-- What is kept while the statement's calls run: the grid's box, the two times. -/
structure Keep (w0 : World) (d s b m : Int) (a c : Nat) (k y t l k' y' t' l' : Int) (w : World) : Prop where
  g : Box4 w w0.heap.size d s b m
  x : Box4 w a k y t l
  y : Box4 w c k' y' t' l'
  b : Below w0.heap.size w0 w
section
variable {w0 w w' : World} {d s b m : Int} {a c : Nat} {k y t l k' y' t' l' : Int}
theorem Keep.next (h : Keep w0 d s b m a c k y t l k' y' t' l' w) (q : Below w.heap.size w w') : Keep w0 d s b m a c k y t l k' y' t' l' w' :=
  ⟨h.g.next q h.g.lt, h.x.next q h.x.lt, h.y.next q h.y.lt, h.b.trans (q.mono h.b.size)⟩
theorem Keep.drew (h : Keep w0 d s b m a c k y t l k' y' t' l' w) : Keep w0 d s b m a c k y t l k' y' t' l' w.drew := h.next (Below.refl _ w).drew
end
/-- The boxes as they are made. -/
theorem boxes3 (w : World) (d s b m k y t l k' y' t' l' : Int) (o : Obj) (T T' : TypeId) (W : World) (hW : W = ((((w.alloc (.cells #[.int .i64 d, .int .i64 s, .int .i64 b, .int .i64 m] T)).alloc o).alloc (.cells #[.int .i64 k, .int .i64 y, .int .i64 t, .int .i64 l] T')).alloc (.cells #[.int .i64 k', .int .i64 y', .int .i64 t', .int .i64 l'] T')).drew) :
    Box4 W w.heap.size d s b m ∧ Box4 W (w.heap.size + 1 + 1) k y t l ∧ Box4 W (w.heap.size + 1 + 1 + 1) k' y' t' l' ∧ Below w.heap.size w W := by
  subst hW
  have h1 := K1.first w d s b m T
  have hs : (w.alloc (.cells #[.int .i64 d, .int .i64 s, .int .i64 b, .int .i64 m] T)).heap.size = w.heap.size + 1 := by simp
  generalize w.alloc (.cells #[.int .i64 d, .int .i64 s, .int .i64 b, .int .i64 m] T) = w1 at h1 hs ⊢
  have h2 := h1.next ((Below.refl _ w1).alloc (Nat.le_refl _) o)
  have hs2 : (w1.alloc o).heap.size = w.heap.size + 1 + 1 := by simp [hs]
  generalize w1.alloc o = w2 at h2 hs2 ⊢
  have h3 := h2.next ((Below.refl _ w2).alloc (Nat.le_refl _) (.cells #[.int .i64 k, .int .i64 y, .int .i64 t, .int .i64 l] T'))
  have x3 := Box4.new w2 k y t l T'
  have hs3 : (w2.alloc (.cells #[.int .i64 k, .int .i64 y, .int .i64 t, .int .i64 l] T')).heap.size = w.heap.size + 1 + 1 + 1 := by simp [hs2]
  generalize w2.alloc (.cells #[.int .i64 k, .int .i64 y, .int .i64 t, .int .i64 l] T') = w3 at h3 x3 hs3 ⊢
  have hb := (Below.refl _ w3).alloc (Nat.le_refl _) (.cells #[.int .i64 k', .int .i64 y', .int .i64 t', .int .i64 l'] T')
  have h4 := (h3.next hb).drew
  have x4 := x3.next hb x3.lt
  have y4 := Box4.new w3 k' y' t' l' T'
  rw [hs2] at x4
  rw [hs3] at y4
  generalize w3.alloc (.cells #[.int .i64 k', .int .i64 y', .int .i64 t', .int .i64 l'] T') = w4 at h4 x4 y4 ⊢
  have hd := (Below.refl w4.heap.size w4).drew
  exact ⟨h4.x, x4.next hd x4.lt, y4.next hd y4.lt, h4.b⟩
set_option maxHeartbeats 8000000 in
set_option maxRecDepth 100000 in
theorem times_any (d s b m n k y t l k' y' t' l' : Int) (ht : t ≤ 9223372036854775807) (ht' : t' ≤ 9223372036854775807) (w : World) (hE : Env w) (hDy : Days w) :
    Calls Tryd.prog 8 #[.agg #[.int .i64 d, .int .i64 s, .int .i64 b, .int .i64 m], .int .i64 n, .agg #[.int .i64 k, .int .i64 y, .int .i64 t, .int .i64 l, .int .i64 k', .int .i64 y', .int .i64 t', .int .i64 l']] w fun e w' => e = .returned (.bool true) ∧ Below w.heap.size w w' := by
  have hsz := hE.size
  have cK := hid (fun w' (hb : Below w.heap.size w w') => tawake_any w' (hE.below hb hsz) (hDy.below hb hsz))
  have cB := fun w => between_any k y t l k' y' t' l' ht ht' w
  have cB' := fun w => rbetween_any k y t l k' y' t' l' w
  have cV := fun w => gvalid_any d s b m w
  have cV' := fun w => rgvalid_any d s b m w
  have cS := fun w => sound_any k y t l ht w
  have cS' := fun w => rsound_any k y t l w
  have cF := fun w => fits_any d s b m n k y t l ht w
  have cF' := fun w => rfits_any d s b m n k y t l w
  have cO := fun w => overlap_any k y t l k' y' t' l' ht ht' w
  have cO' := fun w => roverlap_any k y t l k' y' t' l' w
  have cP := fun w => before_any k y t l k' y' t' l' ht ht' w
  have cP' := fun w => rbefore_any k y t l k' y' t' l' w
  unfold Says at cB cB' cV cV' cS cS' cF cF' cO cO' cP cP'
  have cK' := cK.out
  unfold Says at cK'
  have cK := hid cK'
  obtain ⟨⟨N, O⟩, hR⟩ : ∃ R, betM k y t l k' y' t' l' = R := ⟨_, rfl⟩
  rw [hR] at cB cB'
  dsimp only at cB cB'
  generalize (if gridB d s b m = true then (0 : Int) else 3) = v1 at cV cV'
  generalize soundB k y t l = v2 at cS cS'
  generalize fitsM d s b m n k y t l = v3 at cF cF'
  generalize overB k y t l k' y' t' l' = v4 at cO cO'
  generalize befB k y t l k' y' t' l' = v5 at cP cP'
  clear hR cK' hE hDy
  go_enter Tryd.func8, Tryd.ntmps8
  go_wp2_with fail
  go_cut [7, 8] (fun v7 v8 wx => ∃ a c : Nat, v7 = .pointer (some ⟨a, 0, none⟩) ∧ v8 = .pointer (some ⟨c, 0, none⟩) ∧ Keep w d s b m a c k y t l k' y' t' l' wx)
  case first =>
    go_region
    all_goals (go_wp2_with fail; go_meet)
    all_goals first
      | (obtain ⟨q1, q2, q3, q4⟩ := boxes3 w d s b m k y t l k' y' t' l' _ _ _ _ rfl
         exact ⟨_, _, rfl, rfl, q1, q2, q3, q4⟩)
      | (obtain ⟨q1, q2, q3, q4⟩ := boxes3 w d s b m k' y' t' l' k y t l _ _ _ _ rfl
         exact ⟨_, _, rfl, rfl, q1, q3, q2, q4⟩)
  case rest =>
    obtain ⟨a, c, rfl, rfl, hk⟩ := hcut
    obtain ⟨⟨g0, g1, g2, g3, _⟩, ⟨x0, x1, x2, x3, _⟩, ⟨y0, y1, y2, y3, _⟩, _⟩ := id hk
    go_wp2_with fail
    refine (cB _).mono ?_
    rintro e w1 ⟨rfl, hb⟩
    have hk := hk.next hb
    clear hb
    obtain ⟨⟨g0, g1, g2, g3, _⟩, ⟨x0, x1, x2, x3, _⟩, ⟨y0, y1, y2, y3, _⟩, _⟩ := id hk
    go_wp2_with fail
    refine (cB' _).mono ?_
    rintro e w2 ⟨rfl, hb⟩
    have hk := hk.next hb
    have hk' := hk.drew
    clear hb hk cB cB'
    obtain ⟨⟨g0, g1, g2, g3, _⟩, ⟨x0, x1, x2, x3, _⟩, ⟨y0, y1, y2, y3, _⟩, _⟩ := id hk'
    go_wp2_with fail
    go_region_held3 (fun w' => (w'.cell? ⟨w.heap.size, 0, none⟩ = some (.int .i64 d) ∧ w'.cell? ⟨w.heap.size, 1, none⟩ = some (.int .i64 s) ∧ w'.cell? ⟨w.heap.size, 2, none⟩ = some (.int .i64 b) ∧ w'.cell? ⟨w.heap.size, 3, none⟩ = some (.int .i64 m)) ∧ (w'.cell? ⟨a, 0, none⟩ = some (.int .i64 k) ∧ w'.cell? ⟨a, 1, none⟩ = some (.int .i64 y) ∧ w'.cell? ⟨a, 2, none⟩ = some (.int .i64 t) ∧ w'.cell? ⟨a, 3, none⟩ = some (.int .i64 l)) ∧ w'.cell? ⟨c, 0, none⟩ = some (.int .i64 k') ∧ w'.cell? ⟨c, 1, none⟩ = some (.int .i64 y') ∧ w'.cell? ⟨c, 2, none⟩ = some (.int .i64 t') ∧ w'.cell? ⟨c, 3, none⟩ = some (.int .i64 l'))
      (first | exact ⟨⟨hk'.g.c0, hk'.g.c1, hk'.g.c2, hk'.g.c3⟩, ⟨hk'.x.c0, hk'.x.c1, hk'.x.c2, hk'.x.c3⟩, hk'.y.c0, hk'.y.c1, hk'.y.c2, hk'.y.c3⟩)
      (first
      | (go_at_call 30; refine (cK.out _ hk'.b).mono ?_; rintro e w' ⟨rfl, hb⟩; have hk' := hk'.next hb)
      | (go_at_call 31; refine (cV _).mono ?_; rintro e w' ⟨rfl, hb⟩; have hk' := hk'.next hb)
      | (go_at_call 32; refine (cV' _).mono ?_; rintro e w' ⟨rfl, hb⟩; have hk' := hk'.next hb)
      | (go_at_call 33; refine (cS _).mono ?_; rintro e w' ⟨rfl, hb⟩; have hk' := hk'.next hb)
      | (go_at_call 34; refine (cS' _).mono ?_; rintro e w' ⟨rfl, hb⟩; have hk' := hk'.next hb)
      | (go_at_call 35; refine (cF _).mono ?_; rintro e w' ⟨rfl, hb⟩; have hk' := hk'.next hb)
      | (go_at_call 36; refine (cF' _).mono ?_; rintro e w' ⟨rfl, hb⟩; have hk' := hk'.next hb)
      | (go_at_call 37; refine (cO _).mono ?_; rintro e w' ⟨rfl, hb⟩; have hk' := hk'.next hb)
      | (go_at_call 38; refine (cO' _).mono ?_; rintro e w' ⟨rfl, hb⟩; have hk' := hk'.next hb)
      | (go_at_call 39; refine (cP _).mono ?_; rintro e w' ⟨rfl, hb⟩; have hk' := hk'.next hb)
      | (go_at_call 40; refine (cP' _).mono ?_; rintro e w' ⟨rfl, hb⟩; have hk' := hk'.next hb))
    all_goals go_wp2
    all_goals go_ret
    all_goals exact ⟨rfl, hk'.b⟩
end Go.Proofs.YtaijbdknaeeoeaaDoor
