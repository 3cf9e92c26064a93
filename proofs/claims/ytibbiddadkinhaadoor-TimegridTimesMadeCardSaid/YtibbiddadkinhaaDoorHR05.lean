/-
  A made time: Time of timetablemade.Dice gives back a time that fits the grid. Conditions: the dice lie in memory; the grid is as made; the number of weeks is from 1 to 20.
  The walk of TimegridReturns: a made time is read as it was written. Conditions: the numbers lie in memory as a slice of ints; the variables hold what their text lays.
  A slice of integers that came in: what they hold. Conditions: as the lemmas state.
-/
import Derived.Test.YtibbiddadkinhaaDoorHT01
import Derived.Test.YtibbiddadkinhaaDoorHT02
import Derived.Test.YtibbiddadkinhaaDoorHT03
import Derived.Test.YtibbiddadkinhaaDoorHT04
import Derived.Test.YtibbiddadkinhaaDoorHT05
import Derived.Test.YtibbiddadkinhaaDoorHT06
import Derived.Test.YtibbiddadkinhaaDoorHT07
import Derived.Test.YtibbiddadkinhaaDoorHT08
import Derived.Test.YtibbiddadkinhaaDoorHT09
import Derived.Test.YtibbiddadkinhaaDoorHT10
import Derived.Test.YtibbiddadkinhaaDoorHR01
import Derived.Test.YtibbiddadkinhaaDoorHR02
import Derived.Test.YtibbiddadkinhaaDoorHR03
import Derived.Test.YtibbiddadkinhaaDoorHR04
import Derived.Test.YtibbiddadkinhaaDoorProg
import Derived.WalkKit
import Derived.WalkSpells
import Derived.WalkLawsBesides
import Derived.Lib.Hide
import Derived.Deep.QuietTactic
import Derived.BigQuiet
import Derived.Laws.Rows
import Derived.OwnWalk
import Derived.Lib.BufferWrite
import Derived.Lib.UnsafeStr
import Derived.Laws.IdiomStrings
import Derived.Laws.BytesArg
import Derived.Laws.BytesString
import Derived.Laws.OwnMore
import Derived.Handy
import Derived.Laws.ResultCell
import Derived.Laws.BitsAllLaws
import Derived.Laws.BitsLemmas
import Derived.Lib.IndexLaws
import Derived.Lib.ItoaNum
import Derived.Lib.Atoi
import Derived.Deep.RegionLaw
import Derived.Deep.RegionHeld3
import Derived.Deep.MidRow
import Derived.Shelf.Strings.Builder1
import Derived.Shelf.Strings.Builder2
import Derived.Shelf.Strings.OnBuilder
import Derived.Shelf.Strings.BuilderF
import Derived.Shelf.Strings.BuilderK
import Derived.Shelf.Strings.Builder2Cap
import Derived.Shelf.Strconv.Atoi
import Derived.Shelf.Strconv.Itoa0
import Derived.Shelf.Strconv.Itoa1
import Derived.Shelf.LaysM
import Derived.Shelf.Strconv.Itoa2
import Derived.Shelf.Strconv.Itoa3
import Derived.Shelf.Strconv.AtoiErrFast
import Derived.Shelf.Strconv.ParseIntEmpty
import Derived.Shelf.Strconv.AtoiFail
import Derived.Shelf.Strconv.Clone
import Derived.Shelf.Strconv.SyntaxError
import Derived.Shelf.LaysC
import Derived.Shelf.Strconv.ToError
import Derived.Shelf.Strconv.AtoiErr
import Derived.Shelf.Strings.Search1
import Derived.Shelf.Strings.Search2
import Derived.Shelf.Strings.Search3
import Derived.Shelf.Strings.Cut
import Derived.Shelf.Strings.Shaped
import Derived.Shelf.Strings.Prefix
import Derived.Shelf.Unicode.DecodeSlow
import Derived.Shelf.Strings.BuilderCap
import Derived.Lib.AtoiErrMem
import Derived.RangeFuncNested
import Derived.RangeFuncBound
import Derived.RangeFuncCalls
import Derived.RangeFuncLeaves
import Derived.Shelf.Abstract
import Derived.Shelf.RegionOpen
import Derived.OwnWalkIn
import Derived.TacticsInMore
import Derived.LoopNIn
import Derived.LoopIn
import Derived.Test.YtibbiddadkinhaaDoorCards
import Derived.Test.YtibbiddadkinhaaDoorTie
import Derived.Lib.SmallJoins
import Derived.SizedLaws
import Derived.Stop.LaidErr
import Derived.Deep.DeepWitnessRowRef
import Derived.ProofKit
import Derived.OpenShut
import Derived.Deep.DeepHandedRow
import Derived.Deep.DeepLaidRun
import Derived.Lib.LaidU8
import Derived.Shelf.Vars
import Derived.Laws.IdiomArrays
set_option linter.unusedVariables false
namespace Go.Proofs.YtibbiddadkinhaaDoor
open Go Go.Proofs Go.RowKit Go.Lib

/-- A time as it is made in a grid of d days with s slots. -/
def MadeT (d s : Int) (n : Nat) (k y t l : Int) : Prop := (1 ≤ k ∧ k < 2 ^ n) ∧ (0 ≤ y ∧ y < d) ∧ (0 ≤ t ∧ t < s) ∧ 1 ≤ l ∧ t + l ≤ s
/-- Ahead of the time's own block. -/
structure TK (w0 : World) (g c : Nat) (A : Option Addr) (L : List Int) (d s b m : Int) (w : World) : Prop where
  x : Cells4 23 w w0.heap.size d s b m
  r : Cells4 25 w (w0.heap.size + 1) 0 0 0 0
  e : ∃ k, DE w0 g c A L k w
  g0 : g < w0.heap.size
/-- With the time's own block t. -/
structure TA (w0 : World) (g c : Nat) (A : Option Addr) (L : List Int) (d s b m : Int) (t : Nat) (k1 k2 k3 k4 : Int) (w : World) : Prop where
  h : TK w0 g c A L d s b m w
  tm : Cells4 25 w t k1 k2 k3 k4
  tl : w0.heap.size + 2 ≤ t
section
variable {w0 w w' : World} {g c : Nat} {A : Option Addr} {L : List Int} {d s b m k1 k2 k3 k4 : Int} {t : Nat}
theorem TK.roll (h : TK w0 g c A L d s b m w) (hd : ∃ k', DiceAt w' g A L c k') (hr : Rolled g w w') : TK w0 g c A L d s b m w' := by
  obtain ⟨k, he⟩ := h.e
  obtain ⟨k', hd⟩ := hd
  have := h.g0
  exact ⟨h.x.roll hr (by omega), h.r.roll hr (by omega), ⟨k', he.next hd hr⟩, h.g0⟩
theorem TK.below (h : TK w0 g c A L d s b m w) (k : Below w.heap.size w w') : TK w0 g c A L d s b m w' := by
  obtain ⟨q, he⟩ := h.e
  exact ⟨h.x.under k, h.r.under k, ⟨q, he.below (k.mono he.p.size) h.g0⟩, h.g0⟩
theorem TK.drew (h : TK w0 g c A L d s b m w) : TK w0 g c A L d s b m w.drew := h.below (Below.refl _ w).drew
theorem TK.alloc (h : TK w0 g c A L d s b m w) : TA w0 g c A L d s b m w.heap.size 0 0 0 0 (w.alloc (.cells #[.int .i64 0, .int .i64 0, .int .i64 0, .int .i64 0] 25)) :=
  ⟨h.below ((Below.refl _ w).alloc (Nat.le_refl _) _), Cells4.new w 0 0 0 0 _, h.r.lt⟩
theorem TA.roll (h : TA w0 g c A L d s b m t k1 k2 k3 k4 w) (hd : ∃ k', DiceAt w' g A L c k') (hr : Rolled g w w') : TA w0 g c A L d s b m t k1 k2 k3 k4 w' :=
  ⟨h.h.roll hd hr, h.tm.roll hr (by have := h.h.g0; have := h.tl; omega), h.tl⟩
/-- A store into the time's own block. -/
theorem TK.set (h : TK w0 g c A L d s b m w) (ht : w0.heap.size + 2 ≤ t) (j : Nat) (v : Value) : TK w0 g c A L d s b m (w.setCell ⟨t, j, none⟩ v) := by
  obtain ⟨k, he⟩ := h.e
  have := h.g0
  exact ⟨h.x.other t j v (by omega), h.r.other t j v (by omega), ⟨k, he.set _ _ _ (by omega) (by omega)⟩, h.g0⟩
theorem TA.store (h : TA w0 g c A L d s b m t k1 k2 k3 k4 w) (v0 v1 v2 v3 : Int) :
    TA w0 g c A L d s b m t v0 v1 v2 v3 ((((w.setCell ⟨t, 0, none⟩ (.int .i64 v0)).setCell ⟨t, 1, none⟩ (.int .i64 v1)).setCell ⟨t, 2, none⟩ (.int .i64 v2)).setCell ⟨t, 3, none⟩ (.int .i64 v3)) :=
  ⟨(((h.h.set h.tl _ _).set h.tl _ _).set h.tl _ _).set h.tl _ _, h.tm.all v0 v1 v2 v3, h.tl⟩
theorem TA.last (h : TA w0 g c A L d s b m t k1 k2 k3 k4 w) (v : Int) : TA w0 g c A L d s b m t k1 k2 k3 v (w.setCell ⟨t, 3, none⟩ (.int .i64 v)) :=
  ⟨h.h.set h.tl _ _, h.tm.set3 v, h.tl⟩
/-- The result stored. -/
theorem TA.fin (h : TA w0 g c A L d s b m t k1 k2 k3 k4 w) (v0 v1 v2 v3 : Int) (W : World)
    (hW : W = ((((w.setCell ⟨w0.heap.size + 1, 0, none⟩ (.int .i64 v0)).setCell ⟨w0.heap.size + 1, 1, none⟩ (.int .i64 v1)).setCell ⟨w0.heap.size + 1, 2, none⟩ (.int .i64 v2)).setCell ⟨w0.heap.size + 1, 3, none⟩ (.int .i64 v3))) :
    (loadVar 25 ⟨w0.heap.size + 1, 0, none⟩).run Tryd.prog W = .ok (.agg #[.int .i64 v0, .int .i64 v1, .int .i64 v2, .int .i64 v3]) W ∧ ∃ k, DE w0 g c A L k W := by
  subst hW
  obtain ⟨k, he⟩ := h.h.e
  have := h.h.g0
  exact ⟨load_time (h.h.r.all _ _ _ _), k, (((he.set _ _ _ (by omega) (by omega)).set _ _ _ (by omega) (by omega)).set _ _ _ (by omega) (by omega)).set _ _ _ (by omega) (by omega)⟩
end
theorem TK.first {w : World} {g c k : Nat} {A : Option Addr} {L : List Int} (h : DiceAt w g A L c k) (d s b m : Int) :
    TK w g c A L d s b m ((w.alloc (.cells #[.int .i64 d, .int .i64 s, .int .i64 b, .int .i64 m] 23)).alloc (.cells #[.int .i64 0, .int .i64 0, .int .i64 0, .int .i64 0] 25)) := by
  have h1 := Cells4.new w d s b m 23
  have he := (DE.first h).alloc (.cells #[.int .i64 d, .int .i64 s, .int .i64 b, .int .i64 m] 23)
  have hs : (w.alloc (.cells #[.int .i64 d, .int .i64 s, .int .i64 b, .int .i64 m] 23)).heap.size = w.heap.size + 1 := by simp
  generalize w.alloc (.cells #[.int .i64 d, .int .i64 s, .int .i64 b, .int .i64 m] 23) = w1 at h1 he hs ⊢
  have h2 := Cells4.new w1 0 0 0 0 25
  rw [hs] at h2
  exact ⟨h1.under ((Below.refl _ w1).alloc (Nat.le_refl _) _), h2, ⟨k, he.alloc _⟩, h.lt⟩

set_option maxHeartbeats 8000000 in
set_option maxRecDepth 100000 in
theorem time_any (g c k : Nat) (A : Option Addr) (L : List Int) (d s b m : Int) (n : Nat) (h1 : 1 ≤ n) (h2 : n ≤ 20) (hd1 : 1 ≤ d) (hd2 : d ≤ 100) (hs1 : 1 ≤ s) (hs2 : s ≤ 100) (w : World) (h : DiceAt w g A L c k) :
    Calls Tryd.prog 24 #[.pointer (some ⟨g, 0, none⟩), .agg #[.int .i64 d, .int .i64 s, .int .i64 b, .int .i64 m], .int .i64 (n : Int)] w (FourP (MadeT d s n) g c A L w) := by
  have hN : ∀ q : Int, 1 ≤ q → q ≤ 4294967296 → ∀ W, TK w g c A L d s b m W → Calls Tryd.prog 23 #[.pointer (some ⟨g, 0, none⟩), .int .i64 q] W fun e w' => (∃ r : Int, e = .returned (.int .i64 r) ∧ 0 ≤ r ∧ r < q) ∧ TK w g c A L d s b m w' := fun q hq hq2 W hk => by
    obtain ⟨k, he⟩ := hk.e
    refine (next_any g c k A L q hq2 W he.d).mono ?_
    rintro e w' ⟨⟨r, h1, h2⟩, h3, h4⟩
    exact ⟨⟨r, h1, h2 hq⟩, hk.roll h3 h4⟩
  have hNa : ∀ (t : Nat) (k1 k2 k3 k4 : Int) (q : Int), 1 ≤ q → q ≤ 4294967296 → ∀ W, TA w g c A L d s b m t k1 k2 k3 k4 W → Calls Tryd.prog 23 #[.pointer (some ⟨g, 0, none⟩), .int .i64 q] W fun e w' => (∃ r : Int, e = .returned (.int .i64 r) ∧ 0 ≤ r ∧ r < q) ∧ TA w g c A L d s b m t k1 k2 k3 k4 w' := fun t k1 k2 k3 k4 q hq hq2 W hk => by
    obtain ⟨k, he⟩ := hk.h.e
    refine (next_any g c k A L q hq2 W he.d).mono ?_
    rintro e w' ⟨⟨r, h1, h2⟩, h3, h4⟩
    exact ⟨⟨r, h1, h2 hq⟩, hk.roll h3 h4⟩
  have cS : Hid (∀ W, TK w g c A L d s b m W → Calls Tryd.prog 40 #[.pointer (some ⟨g, 0, none⟩), .int .i64 (n : Int)] W fun e w' => (∃ r : Int, e = .returned (.int .i64 r) ∧ 1 ≤ r ∧ r < 2 ^ n) ∧ TK w g c A L d s b m w') := hid (fun W hk => by
    obtain ⟨k, he⟩ := hk.e
    refine (set_any n h1 h2 g c k A L W he.d).mono ?_
    rintro e w' ⟨⟨r, h1, h2⟩, h3, h4⟩
    exact ⟨⟨r, h1, h2⟩, hk.roll h3 h4⟩)
  have cSa : Hid (∀ W (t : Nat), TA w g c A L d s b m t 0 0 0 0 W → Calls Tryd.prog 40 #[.pointer (some ⟨g, 0, none⟩), .int .i64 (n : Int)] W fun e w' => (∃ r : Int, e = .returned (.int .i64 r) ∧ 1 ≤ r ∧ r < 2 ^ n) ∧ TA w g c A L d s b m t 0 0 0 0 w') := hid (fun W t hk => by
    obtain ⟨k, he⟩ := hk.h.e
    refine (set_any n h1 h2 g c k A L W he.d).mono ?_
    rintro e w' ⟨⟨r, h1, h2⟩, h3, h4⟩
    exact ⟨⟨r, h1, h2⟩, hk.roll h3 h4⟩)
  have cN1 := hid (hN d hd1 (by omega))
  have cN2 := hid (hN s hs1 (by omega))
  have cN1a := hid (fun W (t : Nat) h => hNa t 0 0 0 0 d hd1 (by omega) W h)
  have cN2a := hid (fun W (t : Nat) h => hNa t 0 0 0 0 s hs1 (by omega) W h)
  have HNA := hid hNa
  have hk := TK.first h d s b m
  have HK := hid hk
  clear h hN hNa hk
  go_enter Tryd.func24, Tryd.ntmps24
  go_wp2_with fail
  have hk := HK.out.drew
  clear HK
  refine wp_region_held_drew (S := fun W => Box4 W w.heap.size d s b m) (by kernel_rfl) hk.x.box (fun hHeld => ?_)
  generalize World.drew _ = w1 at hk hHeld ⊢
  (refine wpAnyH_take (i := 0) (oi := _) (v := ?_) rfl (by kernel_rfl) (by kernel_rfl) (by kernel_rfl) (fun _ _ _ h => h) (Or.inl ⟨by rfl, ?_⟩) (by assumption) ?_; rotate_left; (intro wS hSw; obtain ⟨x0, x1, x2, x3, _⟩ := hSw; (try simp only [List.getElem_toArray, List.getElem_cons_zero]); go_simp; (try with_reducible rfl)))
  try simp only [List.getElem_toArray, List.getElem_cons_zero, Act.put, List.setIfInBounds_toArray, List.set_cons_zero, List.set_cons_succ]
  (refine wpAnyH_take (i := 1) (oi := _) (v := ?_) rfl (by kernel_rfl) (by kernel_rfl) (by kernel_rfl) (fun _ _ _ h => h) (Or.inl ⟨by rfl, ?_⟩) (by assumption) ?_; rotate_left; (intro wS hSw; obtain ⟨x0, x1, x2, x3, _⟩ := hSw; (try simp only [List.getElem_toArray, List.getElem_cons_succ, List.getElem_cons_zero]); go_simp; (try with_reducible rfl)))
  try simp only [List.getElem_toArray, List.getElem_cons_succ, List.getElem_cons_zero, Act.put, List.setIfInBounds_toArray, List.set_cons_zero, List.set_cons_succ]
  (refine wpAnyH_take (i := 3) (oi := _) (v := ?_) rfl (by kernel_rfl) (by kernel_rfl) (by kernel_rfl) (fun _ _ _ h => h) (Or.inl ⟨by rfl, ?_⟩) (by assumption) ?_; rotate_left; (intro wS hSw; obtain ⟨x0, x1, x2, x3, _⟩ := hSw; (try simp only [List.getElem_toArray, List.getElem_cons_succ, List.getElem_cons_zero]); go_simp; (try with_reducible rfl)))
  try simp only [List.getElem_toArray, List.getElem_cons_succ, List.getElem_cons_zero, Act.put, List.setIfInBounds_toArray, List.set_cons_zero, List.set_cons_succ]
  (refine wpAnyH_take (i := 4) (oi := _) (v := ?_) rfl (by kernel_rfl) (by kernel_rfl) (by kernel_rfl) (fun _ _ _ h => h) (Or.inl ⟨by rfl, ?_⟩) (by assumption) ?_; rotate_left; (intro wS hSw; obtain ⟨x0, x1, x2, x3, _⟩ := hSw; (try simp only [List.getElem_toArray, List.getElem_cons_succ, List.getElem_cons_zero]); go_simp; (try with_reducible rfl)))
  try simp only [List.getElem_toArray, List.getElem_cons_succ, List.getElem_cons_zero, Act.put, List.setIfInBounds_toArray, List.set_cons_zero, List.set_cons_succ]
  (refine wpAnyH_take (i := 5) (oi := _) (v := ?_) rfl (by kernel_rfl) (by kernel_rfl) (by kernel_rfl) (fun _ _ _ h => h) (Or.inl ⟨by rfl, ?_⟩) (by assumption) ?_; rotate_left; (intro wS hSw; obtain ⟨x0, x1, x2, x3, _⟩ := hSw; (try simp only [List.getElem_toArray, List.getElem_cons_succ, List.getElem_cons_zero]); go_simp; (try with_reducible rfl)))
  try simp only [List.getElem_toArray, List.getElem_cons_succ, List.getElem_cons_zero, Act.put, List.setIfInBounds_toArray, List.set_cons_zero, List.set_cons_succ]
  (refine wpAnyH_take (i := 7) (oi := _) (v := ?_) rfl (by kernel_rfl) (by kernel_rfl) (by kernel_rfl) (fun _ _ _ h => h) (Or.inl ⟨by rfl, ?_⟩) (by assumption) ?_; rotate_left; (intro wS hSw; obtain ⟨x0, x1, x2, x3, _⟩ := hSw; (try simp only [List.getElem_toArray, List.getElem_cons_succ, List.getElem_cons_zero]); go_simp; (try with_reducible rfl)))
  try simp only [List.getElem_toArray, List.getElem_cons_succ, List.getElem_cons_zero, Act.put, List.setIfInBounds_toArray, List.set_cons_zero, List.set_cons_succ]
  (refine wpAnyH_take (i := 8) (oi := _) (v := ?_) rfl (by kernel_rfl) (by kernel_rfl) (by kernel_rfl) (fun _ _ _ h => h) (Or.inl ⟨by rfl, ?_⟩) (by assumption) ?_; rotate_left; (intro wS hSw; obtain ⟨x0, x1, x2, x3, _⟩ := hSw; (try simp only [List.getElem_toArray, List.getElem_cons_succ, List.getElem_cons_zero]); go_simp; (try with_reducible rfl)))
  try simp only [List.getElem_toArray, List.getElem_cons_succ, List.getElem_cons_zero, Act.put, List.setIfInBounds_toArray, List.set_cons_zero, List.set_cons_succ]
  (refine wpAnyH_take (i := 9) (oi := _) (v := ?_) rfl (by kernel_rfl) (by kernel_rfl) (by kernel_rfl) (fun _ _ _ h => h) (Or.inl ⟨by rfl, ?_⟩) (by assumption) ?_; rotate_left; (intro wS hSw; obtain ⟨x0, x1, x2, x3, _⟩ := hSw; (try simp only [List.getElem_toArray, List.getElem_cons_succ, List.getElem_cons_zero]); go_simp; (try with_reducible rfl)))
  try simp only [List.getElem_toArray, List.getElem_cons_succ, List.getElem_cons_zero, Act.put, List.setIfInBounds_toArray, List.set_cons_zero, List.set_cons_succ]
  refine wpAnyH_ready (rs := [2, 12]) (by kernel_rfl) (by simp) ?_
  refine AllReadyH.cons (o := _) rfl (fun K hK => ?_) (AllReadyH.cons (o := _) rfl (fun K hK => ?_) AllReadyH.nil)
  · (try simp only [List.getElem_toArray, List.getElem_cons_succ, List.getElem_cons_zero])
    go_simp
    go_at_call 40
    refine (cS.out _ hk).mono ?_
    rintro e w1 ⟨⟨k1, rfl, p1, p1b⟩, hk⟩
    go_wp2_with fail
    refine hK.out _ _ (hk.x.box) (fun hHeld => ?_)
    clear hK K
    try simp only [List.getElem_toArray, List.getElem_cons_succ, List.getElem_cons_zero, Act.put, List.setIfInBounds_toArray, List.set_cons_zero, List.set_cons_succ]
    refine wpAnyH_ready (rs := [6, 12]) (by kernel_rfl) (by simp) ?_
    refine AllReadyH.cons (o := _) rfl (fun K hK => ?_) (AllReadyH.cons (o := _) rfl (fun K hK => ?_) AllReadyH.nil)
    · (try simp only [List.getElem_toArray, List.getElem_cons_succ, List.getElem_cons_zero])
      go_simp
      go_at_call 23
      refine (cN1.out _ hk).mono ?_
      rintro e w1 ⟨⟨k2, rfl, p2, p2b⟩, hk⟩
      go_wp2_with fail
      refine hK.out _ _ (hk.x.box) (fun hHeld => ?_)
      clear hK K
      try simp only [List.getElem_toArray, List.getElem_cons_succ, List.getElem_cons_zero, Act.put, List.setIfInBounds_toArray, List.set_cons_zero, List.set_cons_succ]
      refine wpAnyH_ready (rs := [10, 12]) (by kernel_rfl) (by simp) ?_
      refine AllReadyH.cons (o := _) rfl (fun K hK => ?_) (AllReadyH.cons (o := _) rfl (fun K hK => ?_) AllReadyH.nil)
      · (try simp only [List.getElem_toArray, List.getElem_cons_succ, List.getElem_cons_zero])
        go_simp
        go_at_call 23
        refine (cN2.out _ hk).mono ?_
        rintro e w1 ⟨⟨k3, rfl, p3, p3b⟩, hk⟩
        go_wp2_with fail
        refine hK.out _ _ (hk.x.box) (fun hHeld => ?_)
        clear hK K
        try simp only [List.getElem_toArray, List.getElem_cons_succ, List.getElem_cons_zero, Act.put, List.setIfInBounds_toArray, List.set_cons_zero, List.set_cons_succ]
        (refine wpAnyH_take (i := 11) (oi := _) (v := ?_) rfl (by kernel_rfl) (by kernel_rfl) (by kernel_rfl) (fun _ _ _ h => h) (Or.inl ⟨by rfl, ?_⟩) (by assumption) ?_; rotate_left; (intro wS hSw; obtain ⟨x0, x1, x2, x3, _⟩ := hSw; (try simp only [List.getElem_toArray, List.getElem_cons_succ, List.getElem_cons_zero]); go_simp; (try with_reducible rfl)))
        try simp only [List.getElem_toArray, List.getElem_cons_succ, List.getElem_cons_zero, Act.put, List.setIfInBounds_toArray, List.set_cons_zero, List.set_cons_succ]
        refine wpAnyH_ready (rs := [12]) (by kernel_rfl) (by simp) ?_
        refine AllReadyH.cons (o := _) rfl (fun K hK => ?_) AllReadyH.nil
        (try simp only [List.getElem_toArray, List.getElem_cons_succ, List.getElem_cons_zero])
        go_simp
        have ha := hk.alloc
        generalize w1.heap.size = t at ha ⊢
        refine hK.out _ _ ha.h.x.box (fun hHeld => ?_)
        clear hK K hk
        try simp only [List.getElem_toArray, List.getElem_cons_succ, List.getElem_cons_zero, Act.put, List.setIfInBounds_toArray, List.set_cons_zero, List.set_cons_succ]
        have x := ha.tm.box
        obtain ⟨y0, y1, y2, y3, _⟩ := x
        have f0 := ha.tm.free 0
        have f1 := ha.tm.free 1
        have f2 := ha.tm.free 2
        have f3 := ha.tm.free 3
        refine wpAnyH_ready (rs := [13]) (by kernel_rfl) (by simp) ?_
        refine AllReadyH.cons (o := _) rfl (fun K hK => ?_) AllReadyH.nil
        (try simp only [List.getElem_toArray, List.getElem_cons_succ, List.getElem_cons_zero])
        go_simp
        have ha := ha.store k1 k2 k3 0
        refine hK.out _ _ ha.h.x.box (fun hHeld => ?_)
        clear hK K hHeld y0 y1 y2 y3 f0 f1 f2 f3
        try simp only [List.getElem_toArray, List.getElem_cons_succ, List.getElem_cons_zero, Act.put, List.setIfInBounds_toArray, List.set_cons_zero, List.set_cons_succ]
        refine wpAnyH_done (by kernel_rfl) ?_ _
        have v1 : IntKind.i64.wrap (s - k3) = s - k3 := IntWalk.i64_in _ (by omega)
        obtain ⟨x0, x1, x2, x3, _⟩ := ha.h.x.box
        obtain ⟨y0, y1, y2, y3, _⟩ := ha.tm.box
        go_wp2_with fail
        refine (HNA.out _ _ _ _ _ (s - k3) (by omega) (by omega) _ ha).mono ?_
        rintro e w2 ⟨⟨r, rfl, q1, q2⟩, hz⟩
        clear x0 x1 x2 x3 y0 y1 y2 y3
        have v2 : IntKind.i64.wrap (1 + r) = 1 + r := IntWalk.i64_in _ (by omega)
        obtain ⟨x0, x1, x2, x3, _⟩ := hz.h.r.box
        obtain ⟨y0, y1, y2, y3, _⟩ := hz.tm.box
        have f3 := hz.tm.free 3
        have z0 := hz.h.r.free 0
        have z1 := hz.h.r.free 1
        have z2 := hz.h.r.free 2
        have z3 := hz.h.r.free 3
        have hne : w.heap.size + 1 ≠ t := by have := hz.tl; omega
        go_wp2_with fail
        have hf := (hz.last (1 + r)).fin k1 k2 k3 (1 + r) _ rfl
        refine bodyPost_ret (v := .agg #[.int .i64 k1, .int .i64 k2, .int .i64 k3, .int .i64 (1 + r)]) (results_c rfl _ _ _ ⟨w.heap.size + 1, 0, none⟩ _ rfl hf.1) rfl ?_
        obtain ⟨kz, hz2⟩ := hf.2
        exact ⟨_, _, _, _, kz, rfl, ⟨⟨p1, p1b⟩, ⟨p2, p2b⟩, ⟨p3, p3b⟩, by omega, by omega⟩, hz2⟩
      · (try simp only [List.getElem_toArray, List.getElem_cons_succ, List.getElem_cons_zero])
        go_simp
        have ha := hk.alloc
        generalize w1.heap.size = t at ha ⊢
        refine hK.out _ _ ha.h.x.box (fun hHeld => ?_)
        clear hK K hk
        try simp only [List.getElem_toArray, List.getElem_cons_succ, List.getElem_cons_zero, Act.put, List.setIfInBounds_toArray, List.set_cons_zero, List.set_cons_succ]
        refine wpAnyH_ready (rs := [10]) (by kernel_rfl) (by simp) ?_
        refine AllReadyH.cons (o := _) rfl (fun K hK => ?_) AllReadyH.nil
        (try simp only [List.getElem_toArray, List.getElem_cons_succ, List.getElem_cons_zero])
        go_simp
        go_at_call 23
        refine (cN2a.out _ _ ha).mono ?_
        rintro e w1 ⟨⟨k3, rfl, p3, p3b⟩, ha⟩
        go_wp2_with fail
        refine hK.out _ _ (ha.h.x.box) (fun hHeld => ?_)
        clear hK K
        try simp only [List.getElem_toArray, List.getElem_cons_succ, List.getElem_cons_zero, Act.put, List.setIfInBounds_toArray, List.set_cons_zero, List.set_cons_succ]
        (refine wpAnyH_take (i := 11) (oi := _) (v := ?_) rfl (by kernel_rfl) (by kernel_rfl) (by kernel_rfl) (fun _ _ _ h => h) (Or.inl ⟨by rfl, ?_⟩) (by assumption) ?_; rotate_left; (intro wS hSw; obtain ⟨x0, x1, x2, x3, _⟩ := hSw; (try simp only [List.getElem_toArray, List.getElem_cons_succ, List.getElem_cons_zero]); go_simp; (try with_reducible rfl)))
        try simp only [List.getElem_toArray, List.getElem_cons_succ, List.getElem_cons_zero, Act.put, List.setIfInBounds_toArray, List.set_cons_zero, List.set_cons_succ]
        have x := ha.tm.box
        obtain ⟨y0, y1, y2, y3, _⟩ := x
        have f0 := ha.tm.free 0
        have f1 := ha.tm.free 1
        have f2 := ha.tm.free 2
        have f3 := ha.tm.free 3
        refine wpAnyH_ready (rs := [13]) (by kernel_rfl) (by simp) ?_
        refine AllReadyH.cons (o := _) rfl (fun K hK => ?_) AllReadyH.nil
        (try simp only [List.getElem_toArray, List.getElem_cons_succ, List.getElem_cons_zero])
        go_simp
        have ha := ha.store k1 k2 k3 0
        refine hK.out _ _ ha.h.x.box (fun hHeld => ?_)
        clear hK K hHeld y0 y1 y2 y3 f0 f1 f2 f3
        try simp only [List.getElem_toArray, List.getElem_cons_succ, List.getElem_cons_zero, Act.put, List.setIfInBounds_toArray, List.set_cons_zero, List.set_cons_succ]
        refine wpAnyH_done (by kernel_rfl) ?_ _
        have v1 : IntKind.i64.wrap (s - k3) = s - k3 := IntWalk.i64_in _ (by omega)
        obtain ⟨x0, x1, x2, x3, _⟩ := ha.h.x.box
        obtain ⟨y0, y1, y2, y3, _⟩ := ha.tm.box
        go_wp2_with fail
        refine (HNA.out _ _ _ _ _ (s - k3) (by omega) (by omega) _ ha).mono ?_
        rintro e w2 ⟨⟨r, rfl, q1, q2⟩, hz⟩
        clear x0 x1 x2 x3 y0 y1 y2 y3
        have v2 : IntKind.i64.wrap (1 + r) = 1 + r := IntWalk.i64_in _ (by omega)
        obtain ⟨x0, x1, x2, x3, _⟩ := hz.h.r.box
        obtain ⟨y0, y1, y2, y3, _⟩ := hz.tm.box
        have f3 := hz.tm.free 3
        have z0 := hz.h.r.free 0
        have z1 := hz.h.r.free 1
        have z2 := hz.h.r.free 2
        have z3 := hz.h.r.free 3
        have hne : w.heap.size + 1 ≠ t := by have := hz.tl; omega
        go_wp2_with fail
        have hf := (hz.last (1 + r)).fin k1 k2 k3 (1 + r) _ rfl
        refine bodyPost_ret (v := .agg #[.int .i64 k1, .int .i64 k2, .int .i64 k3, .int .i64 (1 + r)]) (results_c rfl _ _ _ ⟨w.heap.size + 1, 0, none⟩ _ rfl hf.1) rfl ?_
        obtain ⟨kz, hz2⟩ := hf.2
        exact ⟨_, _, _, _, kz, rfl, ⟨⟨p1, p1b⟩, ⟨p2, p2b⟩, ⟨p3, p3b⟩, by omega, by omega⟩, hz2⟩
    · (try simp only [List.getElem_toArray, List.getElem_cons_succ, List.getElem_cons_zero])
      go_simp
      have ha := hk.alloc
      generalize w1.heap.size = t at ha ⊢
      refine hK.out _ _ ha.h.x.box (fun hHeld => ?_)
      clear hK K hk
      try simp only [List.getElem_toArray, List.getElem_cons_succ, List.getElem_cons_zero, Act.put, List.setIfInBounds_toArray, List.set_cons_zero, List.set_cons_succ]
      refine wpAnyH_ready (rs := [6]) (by kernel_rfl) (by simp) ?_
      refine AllReadyH.cons (o := _) rfl (fun K hK => ?_) AllReadyH.nil
      (try simp only [List.getElem_toArray, List.getElem_cons_succ, List.getElem_cons_zero])
      go_simp
      go_at_call 23
      refine (cN1a.out _ _ ha).mono ?_
      rintro e w1 ⟨⟨k2, rfl, p2, p2b⟩, ha⟩
      go_wp2_with fail
      refine hK.out _ _ (ha.h.x.box) (fun hHeld => ?_)
      clear hK K
      try simp only [List.getElem_toArray, List.getElem_cons_succ, List.getElem_cons_zero, Act.put, List.setIfInBounds_toArray, List.set_cons_zero, List.set_cons_succ]
      refine wpAnyH_ready (rs := [10]) (by kernel_rfl) (by simp) ?_
      refine AllReadyH.cons (o := _) rfl (fun K hK => ?_) AllReadyH.nil
      (try simp only [List.getElem_toArray, List.getElem_cons_succ, List.getElem_cons_zero])
      go_simp
      go_at_call 23
      refine (cN2a.out _ _ ha).mono ?_
      rintro e w1 ⟨⟨k3, rfl, p3, p3b⟩, ha⟩
      go_wp2_with fail
      refine hK.out _ _ (ha.h.x.box) (fun hHeld => ?_)
      clear hK K
      try simp only [List.getElem_toArray, List.getElem_cons_succ, List.getElem_cons_zero, Act.put, List.setIfInBounds_toArray, List.set_cons_zero, List.set_cons_succ]
      (refine wpAnyH_take (i := 11) (oi := _) (v := ?_) rfl (by kernel_rfl) (by kernel_rfl) (by kernel_rfl) (fun _ _ _ h => h) (Or.inl ⟨by rfl, ?_⟩) (by assumption) ?_; rotate_left; (intro wS hSw; obtain ⟨x0, x1, x2, x3, _⟩ := hSw; (try simp only [List.getElem_toArray, List.getElem_cons_succ, List.getElem_cons_zero]); go_simp; (try with_reducible rfl)))
      try simp only [List.getElem_toArray, List.getElem_cons_succ, List.getElem_cons_zero, Act.put, List.setIfInBounds_toArray, List.set_cons_zero, List.set_cons_succ]
      have x := ha.tm.box
      obtain ⟨y0, y1, y2, y3, _⟩ := x
      have f0 := ha.tm.free 0
      have f1 := ha.tm.free 1
      have f2 := ha.tm.free 2
      have f3 := ha.tm.free 3
      refine wpAnyH_ready (rs := [13]) (by kernel_rfl) (by simp) ?_
      refine AllReadyH.cons (o := _) rfl (fun K hK => ?_) AllReadyH.nil
      (try simp only [List.getElem_toArray, List.getElem_cons_succ, List.getElem_cons_zero])
      go_simp
      have ha := ha.store k1 k2 k3 0
      refine hK.out _ _ ha.h.x.box (fun hHeld => ?_)
      clear hK K hHeld y0 y1 y2 y3 f0 f1 f2 f3
      try simp only [List.getElem_toArray, List.getElem_cons_succ, List.getElem_cons_zero, Act.put, List.setIfInBounds_toArray, List.set_cons_zero, List.set_cons_succ]
      refine wpAnyH_done (by kernel_rfl) ?_ _
      have v1 : IntKind.i64.wrap (s - k3) = s - k3 := IntWalk.i64_in _ (by omega)
      obtain ⟨x0, x1, x2, x3, _⟩ := ha.h.x.box
      obtain ⟨y0, y1, y2, y3, _⟩ := ha.tm.box
      go_wp2_with fail
      refine (HNA.out _ _ _ _ _ (s - k3) (by omega) (by omega) _ ha).mono ?_
      rintro e w2 ⟨⟨r, rfl, q1, q2⟩, hz⟩
      clear x0 x1 x2 x3 y0 y1 y2 y3
      have v2 : IntKind.i64.wrap (1 + r) = 1 + r := IntWalk.i64_in _ (by omega)
      obtain ⟨x0, x1, x2, x3, _⟩ := hz.h.r.box
      obtain ⟨y0, y1, y2, y3, _⟩ := hz.tm.box
      have f3 := hz.tm.free 3
      have z0 := hz.h.r.free 0
      have z1 := hz.h.r.free 1
      have z2 := hz.h.r.free 2
      have z3 := hz.h.r.free 3
      have hne : w.heap.size + 1 ≠ t := by have := hz.tl; omega
      go_wp2_with fail
      have hf := (hz.last (1 + r)).fin k1 k2 k3 (1 + r) _ rfl
      refine bodyPost_ret (v := .agg #[.int .i64 k1, .int .i64 k2, .int .i64 k3, .int .i64 (1 + r)]) (results_c rfl _ _ _ ⟨w.heap.size + 1, 0, none⟩ _ rfl hf.1) rfl ?_
      obtain ⟨kz, hz2⟩ := hf.2
      exact ⟨_, _, _, _, kz, rfl, ⟨⟨p1, p1b⟩, ⟨p2, p2b⟩, ⟨p3, p3b⟩, by omega, by omega⟩, hz2⟩
  · (try simp only [List.getElem_toArray, List.getElem_cons_succ, List.getElem_cons_zero])
    go_simp
    have ha := hk.alloc
    generalize w1.heap.size = t at ha ⊢
    refine hK.out _ _ ha.h.x.box (fun hHeld => ?_)
    clear hK K hk
    try simp only [List.getElem_toArray, List.getElem_cons_succ, List.getElem_cons_zero, Act.put, List.setIfInBounds_toArray, List.set_cons_zero, List.set_cons_succ]
    refine wpAnyH_ready (rs := [2]) (by kernel_rfl) (by simp) ?_
    refine AllReadyH.cons (o := _) rfl (fun K hK => ?_) AllReadyH.nil
    (try simp only [List.getElem_toArray, List.getElem_cons_succ, List.getElem_cons_zero])
    go_simp
    go_at_call 40
    refine (cSa.out _ _ ha).mono ?_
    rintro e w1 ⟨⟨k1, rfl, p1, p1b⟩, ha⟩
    go_wp2_with fail
    refine hK.out _ _ (ha.h.x.box) (fun hHeld => ?_)
    clear hK K
    try simp only [List.getElem_toArray, List.getElem_cons_succ, List.getElem_cons_zero, Act.put, List.setIfInBounds_toArray, List.set_cons_zero, List.set_cons_succ]
    refine wpAnyH_ready (rs := [6]) (by kernel_rfl) (by simp) ?_
    refine AllReadyH.cons (o := _) rfl (fun K hK => ?_) AllReadyH.nil
    (try simp only [List.getElem_toArray, List.getElem_cons_succ, List.getElem_cons_zero])
    go_simp
    go_at_call 23
    refine (cN1a.out _ _ ha).mono ?_
    rintro e w1 ⟨⟨k2, rfl, p2, p2b⟩, ha⟩
    go_wp2_with fail
    refine hK.out _ _ (ha.h.x.box) (fun hHeld => ?_)
    clear hK K
    try simp only [List.getElem_toArray, List.getElem_cons_succ, List.getElem_cons_zero, Act.put, List.setIfInBounds_toArray, List.set_cons_zero, List.set_cons_succ]
    refine wpAnyH_ready (rs := [10]) (by kernel_rfl) (by simp) ?_
    refine AllReadyH.cons (o := _) rfl (fun K hK => ?_) AllReadyH.nil
    (try simp only [List.getElem_toArray, List.getElem_cons_succ, List.getElem_cons_zero])
    go_simp
    go_at_call 23
    refine (cN2a.out _ _ ha).mono ?_
    rintro e w1 ⟨⟨k3, rfl, p3, p3b⟩, ha⟩
    go_wp2_with fail
    refine hK.out _ _ (ha.h.x.box) (fun hHeld => ?_)
    clear hK K
    try simp only [List.getElem_toArray, List.getElem_cons_succ, List.getElem_cons_zero, Act.put, List.setIfInBounds_toArray, List.set_cons_zero, List.set_cons_succ]
    (refine wpAnyH_take (i := 11) (oi := _) (v := ?_) rfl (by kernel_rfl) (by kernel_rfl) (by kernel_rfl) (fun _ _ _ h => h) (Or.inl ⟨by rfl, ?_⟩) (by assumption) ?_; rotate_left; (intro wS hSw; obtain ⟨x0, x1, x2, x3, _⟩ := hSw; (try simp only [List.getElem_toArray, List.getElem_cons_succ, List.getElem_cons_zero]); go_simp; (try with_reducible rfl)))
    try simp only [List.getElem_toArray, List.getElem_cons_succ, List.getElem_cons_zero, Act.put, List.setIfInBounds_toArray, List.set_cons_zero, List.set_cons_succ]
    have x := ha.tm.box
    obtain ⟨y0, y1, y2, y3, _⟩ := x
    have f0 := ha.tm.free 0
    have f1 := ha.tm.free 1
    have f2 := ha.tm.free 2
    have f3 := ha.tm.free 3
    refine wpAnyH_ready (rs := [13]) (by kernel_rfl) (by simp) ?_
    refine AllReadyH.cons (o := _) rfl (fun K hK => ?_) AllReadyH.nil
    (try simp only [List.getElem_toArray, List.getElem_cons_succ, List.getElem_cons_zero])
    go_simp
    have ha := ha.store k1 k2 k3 0
    refine hK.out _ _ ha.h.x.box (fun hHeld => ?_)
    clear hK K hHeld y0 y1 y2 y3 f0 f1 f2 f3
    try simp only [List.getElem_toArray, List.getElem_cons_succ, List.getElem_cons_zero, Act.put, List.setIfInBounds_toArray, List.set_cons_zero, List.set_cons_succ]
    refine wpAnyH_done (by kernel_rfl) ?_ _
    have v1 : IntKind.i64.wrap (s - k3) = s - k3 := IntWalk.i64_in _ (by omega)
    obtain ⟨x0, x1, x2, x3, _⟩ := ha.h.x.box
    obtain ⟨y0, y1, y2, y3, _⟩ := ha.tm.box
    go_wp2_with fail
    refine (HNA.out _ _ _ _ _ (s - k3) (by omega) (by omega) _ ha).mono ?_
    rintro e w2 ⟨⟨r, rfl, q1, q2⟩, hz⟩
    clear x0 x1 x2 x3 y0 y1 y2 y3
    have v2 : IntKind.i64.wrap (1 + r) = 1 + r := IntWalk.i64_in _ (by omega)
    obtain ⟨x0, x1, x2, x3, _⟩ := hz.h.r.box
    obtain ⟨y0, y1, y2, y3, _⟩ := hz.tm.box
    have f3 := hz.tm.free 3
    have z0 := hz.h.r.free 0
    have z1 := hz.h.r.free 1
    have z2 := hz.h.r.free 2
    have z3 := hz.h.r.free 3
    have hne : w.heap.size + 1 ≠ t := by have := hz.tl; omega
    go_wp2_with fail
    have hf := (hz.last (1 + r)).fin k1 k2 k3 (1 + r) _ rfl
    refine bodyPost_ret (v := .agg #[.int .i64 k1, .int .i64 k2, .int .i64 k3, .int .i64 (1 + r)]) (results_c rfl _ _ _ ⟨w.heap.size + 1, 0, none⟩ _ rfl hf.1) rfl ?_
    obtain ⟨kz, hz2⟩ := hf.2
    exact ⟨_, _, _, _, kz, rfl, ⟨⟨p1, p1b⟩, ⟨p2, p2b⟩, ⟨p3, p3b⟩, by omega, by omega⟩, hz2⟩
end Go.Proofs.YtibbiddadkinhaaDoor

set_option linter.unusedVariables false
namespace Go.Proofs.YtibbiddadkinhaaDoor
open Go Go.Proofs Go.RowKit Go.Lib

theorem Cells4.played {T : TypeId} {w w' : World} {B g : Nat} {a b x d : Int} (h : Cells4 T w B a b x d) (p : Played w.heap.size g w w') (hB : B ≠ g) : Cells4 T w' B a b x d := (p.block _ h.lt hB).trans h
/-- A made grid is valid, a made time fits it. -/
theorem made_grid {d s b m : Int} (h : MadeG d s b m) : GridP d s b m := by
  obtain ⟨h1, h2, h3, h4⟩ := h
  have hm : s * m ≤ 8 * 60 := Int.mul_le_mul (by omega) (by omega) (by omega) (by omega)
  exact ⟨by omega, by omega, by omega, by omega, by omega⟩
theorem made_frame {d s b m : Int} {n : Nat} (h : MadeG d s b m) (h1 : 1 ≤ n) (h2 : n ≤ 20) : frameB d s b m n = true :=
  decide_eq_true ⟨decide_eq_true (made_grid h), by omega, by omega⟩
theorem mvalid {n : Nat} {k : Int} (h1 : 1 ≤ n) (h2 : n ≤ 20) (hk : 1 ≤ k) (hk2 : k < 2 ^ n) : validM k n = true := validM_yes h1 h2 hk hk2
theorem pow_mono {a b : Nat} (h : a ≤ b) : (2 : Int) ^ a ≤ 2 ^ b := by
  have := pow_le h
  have e : (2 : Int) ^ a = ((2 ^ a : Nat) : Int) := by rw [Int.natCast_pow]; rfl
  have e2 : (2 : Int) ^ b = ((2 ^ b : Nat) : Int) := by rw [Int.natCast_pow]; rfl
  omega
theorem made_sound {d s b m k y t l : Int} {n : Nat} (h : MadeG d s b m) (h1 : 1 ≤ n) (h2 : n ≤ 20) (ht : MadeT d s n k y t l) : soundB k y t l = true := by
  obtain ⟨g1, g2, g3, g4⟩ := h
  obtain ⟨t1, t2, t3, t4, t5⟩ := ht
  have := pow_mono h2
  exact decide_eq_true ⟨validM_yes (n := 20) (by omega) (by omega) t1.1 (by omega), by omega, by omega, by omega, by omega⟩
theorem made_fits {d s b m k y t l : Int} {n : Nat} (h : MadeG d s b m) (h1 : 1 ≤ n) (h2 : n ≤ 20) (ht : MadeT d s n k y t l) : fitsM d s b m n k y t l = 0 := by
  unfold fitsM
  rw [if_pos (made_frame h h1 h2), if_pos ⟨made_sound h h1 h2 ht, mvalid h1 h2 ht.1.1 ht.1.2, ht.2.1.2, ht.2.2.2.2⟩]

set_option maxHeartbeats 8000000 in
set_option maxRecDepth 100000 in
theorem treturns_any (A : Option Addr) (L : List Int) (c : Nat) (hlen : L.length ≤ 9223372036854775807) (w : World) (hE : Env w) (hDy : Days w) (h : IntsIn w w.heap.size A L) :
    Calls Tryd.prog 5 #[.slice A L.length c] w fun e w' => e = .returned (.bool true) ∧ Below w.heap.size w w' := by
  have cL := light_any A L.length c w
  have hsz := hE.size
  have HE := hid (fun w' (hb : Below w.heap.size w w') => hE.below hb hsz)
  have HDY := hid (fun w' (hb : Below w.heap.size w w') => hDy.below hb hsz)
  have cK := hid (fun w' (hb : Below w.heap.size w w') => tawake_any w' (hE.below hb hsz) (hDy.below hb hsz))
  have cK' := cK.out
  unfold Says at cK'
  have cK := hid cK'
  clear cK'
  by_cases hl : L.length ≤ 400
  · rw [decide_eq_true hl] at cL
    have cR := hid (fun w h => roll_any A L c hl w h)
    have HI := hid h
    clear hE hDy h
    go_enter Tryd.func5, Tryd.ntmps5
    go_wp2_with fail
    refine cL.mono ?_
    rintro e w' ⟨rfl, rfl⟩
    go_wp2_with fail
    refine (cR.out _ HI.out).mono ?_
    rintro e w1 ⟨rfl, hd1, hb1⟩
    have hgl := hd1.lt
    have HB : Hid (∀ W k, DE w1 w.heap.size c A L k W → Below w.heap.size w W) := hid (fun W k he => hb1.trans (he.toBelow (Nat.le_of_lt hgl) (Nat.le_refl _)))
    have cG := hid (grid_any w.heap.size c 0 A L w1 hd1)
    clear hd1 hb1 cL cR HI
    go_wp2_with fail
    refine cG.out.mono ?_
    rintro e w2 ⟨d, s, b, m, k2, rfl, hmg, he2⟩
    have HN := hid (fun (W : World) k n hn (h : DiceAt W w.heap.size A L c k) => next_at w.heap.size c k A L n hn W h)
    have cN := HN.out _ _ 20 (by omega) he2.d
    obtain ⟨r, hr⟩ : ∃ r, rollV L k2 20 = r := ⟨_, rfl⟩
    have hrr := rollV_range L k2 20 (by omega)
    rw [hr] at cN hrr
    generalize rollK L k2 = k3 at cN
    obtain ⟨q, rfl⟩ : ∃ q : Nat, r = (q : Int) := ⟨r.toNat, by omega⟩
    obtain ⟨n, hn⟩ : ∃ n, q + 1 = n := ⟨_, rfl⟩
    have hn1 : 1 ≤ n := by omega
    have hn2 : n ≤ 20 := by omega
    have hni : 1 + (q : Int) = (n : Int) := by omega
    have HE2 := hid he2
    have CN := hid cN
    have HMG := hid hmg
    have g1 : 1 ≤ d ∧ d ≤ 5 := hmg.1
    have g2 : 2 ≤ s ∧ s ≤ 8 := hmg.2.1
    clear cN he2 hr hrr hn cG hmg
    go_wp2_with fail
    refine CN.out.mono ?_
    rintro e w3 ⟨rfl, hd3, hR3⟩
    have he3 := HE2.out.next hd3 hR3
    have he4 := he3.alloc (.cells #[.int .i64 d, .int .i64 s, .int .i64 b, .int .i64 m] 23)
    have hc4 := Cells4.new w3 d s b m 23
    have hg3 := he3.p.size
    have HE4 := hid he4
    have HC4 := hid hc4
    clear he3 he4 hc4 hd3 hR3 CN HE2
    obtain ⟨g0, g1', g2', g3', _⟩ := HC4.out.box
    have hne : w3.heap.size ≠ w.heap.size := by omega
    have cT := hid (time_any w.heap.size c _ A L d s b m n hn1 hn2 (by omega) (by omega) (by omega) (by omega) _ HE4.out.d)
    go_wp2_with fail
    refine cT.out.mono ?_
    rintro e w5 ⟨K, Y, T, U, k5, rfl, hmt, he5⟩
    have he5' := HE4.out.trans he5
    have hc5 := HC4.out.played he5.p hne
    have hs5 := he5.p.size
    have hlt4 := HC4.out.lt
    have he6 := he5'.alloc (.cells #[.int .i64 K, .int .i64 Y, .int .i64 T, .int .i64 U] 25)
    have hc6 := hc5.under ((Below.refl _ w5).alloc (Nat.le_refl _) (.cells #[.int .i64 K, .int .i64 Y, .int .i64 T, .int .i64 U] 25))
    have ht6 := Cells4.new w5 K Y T U 25
    have HB6 := hid (HB.out _ _ he6)
    have HC6 := hid hc6
    have HT6 := hid ht6
    have hfit := made_fits HMG.out hn1 hn2 hmt
    have hsd := made_sound HMG.out hn1 hn2 hmt
    have hTn : 0 ≤ T ∧ T ≤ 9223372036854775807 := ⟨hmt.2.2.1.1, by have := hmt.2.2.1.2; omega⟩
    obtain ⟨kn, rfl⟩ := natN (show 0 ≤ K by have := hmt.1.1; omega)
    obtain ⟨yn, rfl⟩ := natN (show 0 ≤ Y by have := hmt.2.1.1; omega)
    obtain ⟨tn, rfl⟩ := natN hTn.1
    obtain ⟨un, rfl⟩ := natN (show 0 ≤ U by have := hmt.2.2.2.1; omega)
    have cF := fun w h h' => tformat_any d s b m (n : Int) (kn : Int) (yn : Int) (tn : Int) (un : Int) hTn.2 w h h'
    unfold FormOut textT at cF
    rw [hfit, if_pos rfl] at cF
    simp only [Int.toNat_natCast] at cF
    have hread := time_read hfit
    have htl := time_len (n := n) (k := kn) (y := yn) (t := tn) (l := un)
    have cP := fun w h h' => tparse_any d s b m (n : Int) (ba (timeT n kn yn tn un)) (by rw [ba_size]; omega) w h h'
    rw [lst_ba, hread] at cP
    unfold TimeOut at cP
    dsimp only at cP cF
    generalize ba (timeT n kn yn tn un) = X at cF cP
    have CF := hid cF
    have CP := hid cP
    clear he5 he5' hc5 he6 hc6 ht6 hfit hsd hread htl cF cP cT hmt HE4 HC4 HB g0 g1' g2' g3' hs5 hlt4 hg3
    obtain ⟨g0, g1', g2', g3', _⟩ := HC6.out.box
    obtain ⟨t0, t1, t2, t3, _⟩ := HT6.out.box
    go_wp2_with fail
    refine (CF.out _ (HE.out _ HB6.out) (HDY.out _ HB6.out)).mono ?_
    rintro e w7 ⟨rfl, hb7⟩
    have HB7 := hid (HB6.out.trans (hb7.mono HB6.out.size))
    have HC7 := hid (HC6.out.under hb7)
    have HT7 := hid (HT6.out.under hb7)
    clear hb7 HB6 HC6 HT6 g0 g1' g2' g3' t0 t1 t2 t3
    obtain ⟨g0, g1', g2', g3', _⟩ := HC7.out.box
    go_wp2_with fail
    refine (CP.out _ (HE.out _ HB7.out) (HDY.out _ HB7.out)).mono ?_
    rintro e w8 ⟨rfl, hb8⟩
    have HB8 := hid (HB7.out.trans (hb8.mono HB7.out.size))
    have HT8 := hid ((HT7.out.under hb8).under ((Below.refl _ w8).alloc (Nat.le_refl _) (.cells #[.int .i64 (kn : Int), .int .i64 (yn : Int), .int .i64 (tn : Int), .int .i64 (un : Int)] 25)))
    have HU8 := hid (Cells4.new w8 (kn : Int) (yn : Int) (tn : Int) (un : Int) 25)
    have HB9 := hid (HB8.out.alloc HB8.out.size (.cells #[.int .i64 (kn : Int), .int .i64 (yn : Int), .int .i64 (tn : Int), .int .i64 (un : Int)] 25))
    clear hb8 HB7 HC7 HT7 HB8 g0 g1' g2' g3'
    go_wp2_with fail
    refine (cK.out _ HB9.out).mono ?_
    rintro e w9 ⟨rfl, hb9⟩
    have HB10 := hid (HB9.out.trans (hb9.mono HB9.out.size))
    obtain ⟨t0, t1, t2, t3, _⟩ := (HT8.out.under hb9).box
    obtain ⟨u0, u1, u2, u3, _⟩ := (HU8.out.under hb9).box
    clear hb9
    go_wp2
    go_ret
    exact ⟨rfl, HB10.out⟩
  · rw [decide_eq_false hl] at cL
    clear hE hDy h
    go_enter Tryd.func5, Tryd.ntmps5
    go_wp2_with fail
    refine cL.mono ?_
    rintro e w' ⟨rfl, rfl⟩
    go_wp2_with fail
    refine (cK.out _ (Below.refl _ _)).mono ?_
    rintro e w1 ⟨rfl, hb1⟩
    have HB1 := hid hb1
    clear hb1
    go_wp2
    go_ret
    exact ⟨rfl, HB1.out⟩
end Go.Proofs.YtibbiddadkinhaaDoor

set_option linter.unusedVariables false
set_option maxRecDepth 100000
namespace Go.Proofs.YtibbiddadkinhaaDoor
open Go Go.Proofs Go.ChangeShapes Go.WideShapes Go.ChangeAt Go.RowKit

section
variable {H : Type} {enc : TypeId × Value → H}
theorem open_intcells {W : World} {fuel : Nat} {v : Value} {x : DataW H × List MemPlace} (hf : DataW.trod enc Tryd.prog W 0 (fun _ => true) true fuel 36 [v] = some x) :
    ∃ A L c, v = .slice A (List.length L) c ∧ IntsIn W W.heap.size A L ∧ L.length ≤ 9223372036854775807 := by
  rcases open_ints Tryd.underlying36 Tryd.underlying3 cells3 hf with ⟨hcs, _⟩ | ⟨a, len, cap, zs, hcs, _, hl, hm, hz, _, hcell, hwz⟩
  · simp at hcs
    subst hcs
    exact ⟨none, [], 0, rfl, .inl rfl, by simp⟩
  · simp at hcs
    subst hcs
    have hz' : zs.length = cap := by simpa using hz
    refine ⟨some a, zs.take len, cap, ?_, ?_, ?_⟩
    · rw [List.length_take, Nat.min_eq_left (by omega)]
    · rcases Nat.eq_zero_or_pos len with h0 | h0
      · subst h0; exact .inl (by simp)
      · obtain ⟨b, off, rfl, hc⟩ := ints_at hcell (by omega)
        refine .inr ⟨b, off, rfl, World.block_lt_of_cell? W _ (hc 0 (by omega)), fun j u hu => ?_⟩
        have hj : j < len := by
          have := (List.getElem?_eq_some_iff.1 hu).1
          simp at this
          omega
        rw [hc j (by omega)]
        rw [List.getElem?_take, if_pos hj, List.getElem?_eq_getElem (by omega)] at hu
        simp only [Option.some.injEq] at hu
        subst hu
        have e : zs.getD j 0 = zs[j] := by simp [List.getD, List.getElem?_eq_getElem (show j < zs.length by omega)]
        rw [e]
    · unfold maxLen at hm
      rw [List.length_take]
      omega
theorem open_intlist {W : World} {base : Nat} {v : Value} {d : DataW H} {p : List MemPlace} (hv : Value.okWide Tryd.prog W .any base 36 v) (h : DataW.Trod enc Tryd.prog W 0 (fun _ => true) true 36 v d p) :
    ∃ A L c, v = .slice A (List.length L) c ∧ IntsIn W W.heap.size A L ∧ L.length ≤ 9223372036854775807 := by
  obtain ⟨a0, len, cap, rfl⟩ := okWide_slice Tryd.underlying36 hv
  obtain ⟨fuel, hf⟩ := h
  exact open_intcells hf
end
end Go.Proofs.YtibbiddadkinhaaDoor

