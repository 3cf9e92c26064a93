/-
  The text of a list of times by the specification: WriteTimes. Conditions: the times lie in memory, at most 24; the variables hold what their text lays.
  From a walk to a row, for every statement of this seat: a call that returns true and turns nothing that was there meets what a row asks. Condition: as the lemmas state.
-/
import Derived.Test.YteckefolakjafaaGreatDoorBV20
import Derived.Test.YteckefolakjafaaGreatDoorBV21
import Derived.Test.YteckefolakjafaaGreatDoorCards
import Derived.Test.YteckefolakjafaaGreatDoorTie
import Derived.Test.YteckefolakjafaaGreatDoorBV07
import Derived.Test.YteckefolakjafaaGreatDoorBV13
import Derived.StillTailTactics
import Derived.Lib.SmallJoins
import Derived.SizedLaws
import Derived.Stop.LaidErr
import Derived.Deep.DeepWitnessRowRef
import Derived.WalkKit
import Derived.ProofKit
import Derived.OpenShut
import Derived.Deep.DeepHandedRow
import Derived.Deep.DeepLaidRun
import Derived.Lib.LaidU8
import Derived.Shelf.Vars
set_option linter.unusedVariables false
namespace Go.Proofs.YteckefolakjafaaGreatDoor
open Go Go.Proofs Go.RowKit Go.Lib

/-- What the specification's variables hold. -/
structure REnv7 (w : World) : Prop where
  wd : Words w
  d : RDays w
  z : 6 < w.heap.size
theorem REnv7.below {w w' : World} (h : REnv7 w) {B : Nat} (hb : Below B w w') (hB : w.heap.size ≤ B) : REnv7 w' := by
  have hz := h.z
  have hb' : Below w.heap.size w w' := hb.mono hB
  exact ⟨h.wd.below hb' hz, h.d.below hb' hz, Nat.lt_of_lt_of_le hz hb.size⟩
theorem semi_snoc : ∀ (l : List Str) (x : Str), l ≠ [] → S3.semi (l ++ [x]) = S3.semi l ++ 59 :: x
  | [], x, h => absurd rfl h
  | [p], x, _ => rfl
  | p :: q :: r, x, _ => by
    have ih := semi_snoc (q :: r) x (by simp)
    show p ++ 59 :: S3.semi (q :: r ++ [x]) = (p ++ 59 :: S3.semi (q :: r)) ++ 59 :: x
    rw [ih]
    simp
/-- The grid's box and a time of a list. -/
structure TK (w0 : World) (d s b m : Int) (tb o : Nat) (k y u l : Int) (w : World) : Prop where
  g : K1 w0 d s b m w
  c0 : w.cell? ⟨tb, o, none⟩ = some (.int .i64 k)
  c1 : w.cell? ⟨tb, o + 1, none⟩ = some (.int .i64 y)
  c2 : w.cell? ⟨tb, o + 2, none⟩ = some (.int .i64 u)
  c3 : w.cell? ⟨tb, o + 3, none⟩ = some (.int .i64 l)
  z : tb < w0.heap.size
theorem TK.next {w0 w w' : World} {d s b m : Int} {tb o : Nat} {k y u l : Int} (h : TK w0 d s b m tb o k y u l w) (q : Below w.heap.size w w') : TK w0 d s b m tb o k y u l w' := by
  have kc : ∀ p : Nat, w'.cell? ⟨tb, p, none⟩ = w.cell? ⟨tb, p, none⟩ := fun p => q.cell (p := ⟨tb, p, none⟩) (Nat.lt_of_lt_of_le h.z h.g.b.size)
  exact ⟨h.g.next q, (kc _).trans h.c0, (kc _).trans h.c1, (kc _).trans h.c2, (kc _).trans h.c3, h.z⟩
theorem TK.drew {w0 w : World} {d s b m : Int} {tb o : Nat} {k y u l : Int} (h : TK w0 d s b m tb o k y u l w) : TK w0 d s b m tb o k y u l w.drew := h.next (Below.refl _ w).drew

set_option maxHeartbeats 8000000 in
set_option maxRecDepth 100000 in
theorem rwriteTimes_any (d s b m n : Int) (A : Option Addr) (l : List TimeD) (c B : Nat) (w : World) (hB : B ≤ w.heap.size) (h : TimesIn w (fun k => k < B) A l) (hl : l.length ≤ 24) (hE : REnv7 w) :
    Calls Tryz.prog 18 #[.slice A l.length c, .agg #[.int .i64 d, .int .i64 s, .int .i64 b, .int .i64 m], .int .i64 n] w (Says (.string (ba (timesS d s b m n l))) w) := by
  unfold Says timesS
  have hk := K1.first w d s b m 24
  have HK := hid hk
  have HH := hid h
  have HE := hid (fun (w' : World) (hb : Below w.heap.size w w') => hE.below hb (Nat.le_refl _))
  clear hk h hE
  go_enter Tryz.func18, Tryz.ntmps18
  go_wp2
  go_loopw [7, 8, 9, 10] (fun v iv _ _ wr => ∃ (i : Nat) (x : Str), iv = .int .i64 (i : Int) ∧ i ≤ l.length ∧ v = .string (ba x) ∧ Hid (x = S3.semi ((l.take i).map (timeS d s b m n))) ∧ Hid (K1 w d s b m wr)) (fun _ iv _ _ _ => l.length - (RowKit.intOf iv).toNat)
  case atStart => exact ⟨0, [], rfl, Nat.zero_le _, rfl, hid rfl, hid HK.out⟩
  case round =>
    obtain ⟨i, x, rfl, hi, rfl, hx, hK⟩ := hrel
    by_cases hlt : i < l.length
    · have hltz : (i : Int) < (l.length : Int) := by omega
      have di : decide (l.length ≤ i) = false := decide_eq_false (by omega)
      have hHH := (HH.out.mono (fun k hk => Nat.lt_of_lt_of_le hk hB)).below hK.out.b
      have hle := hHH.le hlt
      obtain ⟨tb, tf, rfl, htb, t0, t1, t2, t3⟩ := hHH.at_ hlt
      have hst : (l.take (i + 1)).map (timeS d s b m n) = (l.take i).map (timeS d s b m n) ++ [timeS d s b m n l[i]] := by rw [List.take_succ_eq_append_getElem hlt, List.map_append]; rfl
      have hxl : x.length ≤ 10000 := by
        rw [hx.out]
        refine Nat.le_trans (semi_len300 _ (fun p hp => ?_)) (by rw [List.length_map, List.length_take]; omega)
        obtain ⟨t, _, rfl⟩ := List.mem_map.1 hp
        exact timeS_len _ _ _ _ _ t
      have htl := timeS_len d s b m n l[i]
      have hnil : ∀ h : i ≠ 0, (l.take i).map (timeS d s b m n) ≠ [] := fun h e => by
        have := congrArg List.length e
        rw [List.length_map, List.length_take, List.length_nil] at this
        omega
      have hfirst : i = 0 → (l.take i).map (timeS d s b m n) = [] := fun h => by subst h; rfl
      obtain ⟨⟨k0, y0, u0, l0⟩, ht⟩ : ∃ t, l[i] = t := ⟨_, rfl⟩
      rw [ht] at t0 t1 t2 t3 hle hst htl
      dsimp only at t0 t1 t2 t3 hle
      have htk : TK w d s b m tb (tf + i * 4) k0 y0 u0 l0 wr := ⟨hK.out, t0, t1, t2, t3, htb⟩
      have HTK := hid htk
      have cF := hid (fun w' hb => rtformat_any d s b m n k0 y0 u0 l0 w' (HE.out w' hb).z (HE.out w' hb).wd (HE.out w' hb).d)
      have hts : (textT d s b m n k0 y0 u0 l0).1 = timeS d s b m n (k0, y0, u0, l0) := rfl
      obtain ⟨⟨tx, te⟩, hR⟩ : ∃ R, textT d s b m n k0 y0 u0 l0 = R := ⟨_, rfl⟩
      have cF' := cF.out
      unfold FormOut at cF'
      rw [hR] at cF' hts
      dsimp only at cF' hts
      rw [← hts] at hst htl
      have CF := hid cF'
      have HST := hid hst
      have HNIL := hid hnil
      have HFIRST := hid hfirst
      clear cF cF' hst hR hts ht hHH hle hnil hfirst HE htk t0 t1 t2 t3
      by_cases h0 : i = 0
      · have h0z : ¬ (0 : Int) < (i : Int) := by omega
        have h0d : decide ((0 : Int) < (i : Int)) = false := decide_eq_false h0z
        have hx0 : Hid (x = []) := hid (by rw [hx.out, HFIRST.out h0]; rfl)
        have hnew : Hid (x ++ tx = S3.semi ((l.take (i + 1)).map (timeS d s b m n))) := hid (by rw [HST.out, HFIRST.out h0, hx0.out]; rfl)
        have a2 := add_ba x tx (by omega)
        clear h0
        go_upto_region 7 with fail
        refine wp_region_held_drew (S := TK w d s b m tb (tf + i * 4) k0 y0 u0 l0) (by kernel_rfl) HTK.out.drew (fun hHeld => ?_)
        (refine wpAnyH_take (i := 0) (oi := _) (v := ?_) rfl (by kernel_rfl) (by kernel_rfl) (by kernel_rfl) (fun _ _ _ h => h) (Or.inl ⟨by rfl, ?_⟩) (by assumption) ?_; rotate_left; (intro wS hSw; obtain ⟨⟨⟨x0, x1, x2, x3, _⟩, _⟩, t0, t1, t2, t3, _⟩ := hSw; (try simp only [List.getElem_toArray, List.getElem_cons_succ, List.getElem_cons_zero]); go_simp; (try with_reducible rfl)))
        try simp only [List.getElem_toArray, List.getElem_cons_succ, List.getElem_cons_zero, Act.put, List.setIfInBounds_toArray, List.set_cons_zero, List.set_cons_succ]
        (refine wpAnyH_take (i := 1) (oi := _) (v := ?_) rfl (by kernel_rfl) (by kernel_rfl) (by kernel_rfl) (fun _ _ _ h => h) (Or.inl ⟨by rfl, ?_⟩) (by assumption) ?_; rotate_left; (intro wS hSw; obtain ⟨⟨⟨x0, x1, x2, x3, _⟩, _⟩, t0, t1, t2, t3, _⟩ := hSw; (try simp only [List.getElem_toArray, List.getElem_cons_succ, List.getElem_cons_zero]); go_simp; (try with_reducible rfl)))
        try simp only [List.getElem_toArray, List.getElem_cons_succ, List.getElem_cons_zero, Act.put, List.setIfInBounds_toArray, List.set_cons_zero, List.set_cons_succ]
        (refine wpAnyH_take (i := 2) (oi := _) (v := ?_) rfl (by kernel_rfl) (by kernel_rfl) (by kernel_rfl) (fun _ _ _ h => h) (Or.inl ⟨by rfl, ?_⟩) (by assumption) ?_; rotate_left; (intro wS hSw; obtain ⟨⟨⟨x0, x1, x2, x3, _⟩, _⟩, t0, t1, t2, t3, _⟩ := hSw; (try simp only [List.getElem_toArray, List.getElem_cons_succ, List.getElem_cons_zero]); go_simp; (try with_reducible rfl)))
        try simp only [List.getElem_toArray, List.getElem_cons_succ, List.getElem_cons_zero, Act.put, List.setIfInBounds_toArray, List.set_cons_zero, List.set_cons_succ]
        (refine wpAnyH_take (i := 3) (oi := _) (v := ?_) rfl (by kernel_rfl) (by kernel_rfl) (by kernel_rfl) (fun _ _ _ h => h) (Or.inl ⟨by rfl, ?_⟩) (by assumption) ?_; rotate_left; (intro wS hSw; obtain ⟨⟨⟨x0, x1, x2, x3, _⟩, _⟩, t0, t1, t2, t3, _⟩ := hSw; (try simp only [List.getElem_toArray, List.getElem_cons_succ, List.getElem_cons_zero]); go_simp; (try with_reducible rfl)))
        try simp only [List.getElem_toArray, List.getElem_cons_succ, List.getElem_cons_zero, Act.put, List.setIfInBounds_toArray, List.set_cons_zero, List.set_cons_succ]
        (refine wpAnyH_take (i := 4) (oi := _) (v := ?_) rfl (by kernel_rfl) (by kernel_rfl) (by kernel_rfl) (fun _ _ _ h => h) (Or.inl ⟨by rfl, ?_⟩) (by assumption) ?_; rotate_left; (intro wS hSw; obtain ⟨⟨⟨x0, x1, x2, x3, _⟩, _⟩, t0, t1, t2, t3, _⟩ := hSw; (try simp only [List.getElem_toArray, List.getElem_cons_succ, List.getElem_cons_zero]); go_simp; (try with_reducible rfl)))
        try simp only [List.getElem_toArray, List.getElem_cons_succ, List.getElem_cons_zero, Act.put, List.setIfInBounds_toArray, List.set_cons_zero, List.set_cons_succ]
        (refine wpAnyH_take (i := 5) (oi := _) (v := ?_) rfl (by kernel_rfl) (by kernel_rfl) (by kernel_rfl) (fun _ _ _ h => h) (Or.inl ⟨by rfl, ?_⟩) (by assumption) ?_; rotate_left; (intro wS hSw; obtain ⟨⟨⟨x0, x1, x2, x3, _⟩, _⟩, t0, t1, t2, t3, _⟩ := hSw; (try simp only [List.getElem_toArray, List.getElem_cons_succ, List.getElem_cons_zero]); go_simp; (try with_reducible rfl)))
        try simp only [List.getElem_toArray, List.getElem_cons_succ, List.getElem_cons_zero, Act.put, List.setIfInBounds_toArray, List.set_cons_zero, List.set_cons_succ]
        (refine wpAnyH_ready (rs := [6]) (by kernel_rfl) (by simp) ?_; refine AllReadyH.cons (o := _) rfl (fun K hK => ?_) AllReadyH.nil; (try simp only [List.getElem_toArray, List.getElem_cons_succ, List.getElem_cons_zero]); go_simp; go_at_call 40; refine (CF.out _ hHeld.g.b).mono ?_; rintro e w2 ⟨rfl, hb2⟩; have hHeld := hHeld.next hb2; clear hb2; go_wp2_with fail; refine hK.out _ _ hHeld (fun hHeld => ?_); clear hK K)
        try simp only [List.getElem_toArray, List.getElem_cons_succ, List.getElem_cons_zero, Act.put, List.setIfInBounds_toArray, List.set_cons_zero, List.set_cons_succ]
        (refine wpAnyH_take (i := 7) (oi := _) (v := ?_) rfl (by kernel_rfl) (by kernel_rfl) (by kernel_rfl) (fun _ _ _ h => h) (Or.inl ⟨by rfl, ?_⟩) (by assumption) ?_; rotate_left; (intro wS hSw; obtain ⟨⟨⟨x0, x1, x2, x3, _⟩, _⟩, t0, t1, t2, t3, _⟩ := hSw; (try simp only [List.getElem_toArray, List.getElem_cons_succ, List.getElem_cons_zero]); go_simp; (try with_reducible rfl)))
        try simp only [List.getElem_toArray, List.getElem_cons_succ, List.getElem_cons_zero, Act.put, List.setIfInBounds_toArray, List.set_cons_zero, List.set_cons_succ]
        (refine wpAnyH_take (i := 8) (oi := _) (v := ?_) rfl (by kernel_rfl) (by kernel_rfl) (by kernel_rfl) (fun _ _ _ h => h) (Or.inl ⟨by rfl, ?_⟩) (by assumption) ?_; rotate_left; (intro wS hSw; obtain ⟨⟨⟨x0, x1, x2, x3, _⟩, _⟩, t0, t1, t2, t3, _⟩ := hSw; (try simp only [List.getElem_toArray, List.getElem_cons_succ, List.getElem_cons_zero]); go_simp; (try with_reducible rfl)))
        try simp only [List.getElem_toArray, List.getElem_cons_succ, List.getElem_cons_zero, Act.put, List.setIfInBounds_toArray, List.set_cons_zero, List.set_cons_succ]
        (refine wpAnyH_take (i := 9) (oi := _) (v := ?_) rfl (by kernel_rfl) (by kernel_rfl) (by kernel_rfl) (fun _ _ _ h => h) (Or.inl ⟨by rfl, ?_⟩) (by assumption) ?_; rotate_left; (intro wS hSw; obtain ⟨⟨⟨x0, x1, x2, x3, _⟩, _⟩, t0, t1, t2, t3, _⟩ := hSw; (try simp only [List.getElem_toArray, List.getElem_cons_succ, List.getElem_cons_zero]); go_simp; (try with_reducible rfl)))
        try simp only [List.getElem_toArray, List.getElem_cons_succ, List.getElem_cons_zero, Act.put, List.setIfInBounds_toArray, List.set_cons_zero, List.set_cons_succ]
        (refine wpAnyH_take (i := 10) (oi := _) (v := ?_) rfl (by kernel_rfl) (by kernel_rfl) (by kernel_rfl) (fun _ _ _ h => h) (Or.inl ⟨by rfl, ?_⟩) (by assumption) ?_; rotate_left; (intro wS hSw; obtain ⟨⟨⟨x0, x1, x2, x3, _⟩, _⟩, t0, t1, t2, t3, _⟩ := hSw; (try simp only [List.getElem_toArray, List.getElem_cons_succ, List.getElem_cons_zero]); go_simp; (try with_reducible rfl)))
        try simp only [List.getElem_toArray, List.getElem_cons_succ, List.getElem_cons_zero, Act.put, List.setIfInBounds_toArray, List.set_cons_zero, List.set_cons_succ]
        (refine wpAnyH_take (i := 11) (oi := _) (v := ?_) rfl (by kernel_rfl) (by kernel_rfl) (by kernel_rfl) (fun _ _ _ h => h) (Or.inl ⟨by rfl, ?_⟩) (by assumption) ?_; rotate_left; (intro wS hSw; obtain ⟨⟨⟨x0, x1, x2, x3, _⟩, _⟩, t0, t1, t2, t3, _⟩ := hSw; (try simp only [List.getElem_toArray, List.getElem_cons_succ, List.getElem_cons_zero]); go_simp; (try with_reducible rfl)))
        try simp only [List.getElem_toArray, List.getElem_cons_succ, List.getElem_cons_zero, Act.put, List.setIfInBounds_toArray, List.set_cons_zero, List.set_cons_succ]
        refine wpAnyH_done (by kernel_rfl) ?_ _
        have HK2 := hid hHeld.g
        clear CF
        go_wp2
        go_roundw
        case rel => exact ⟨i + 1, x ++ tx, by go_num, by omega, rfl, hnew, HK2⟩
        case measure => simp [RowKit.intOf]; omega
      · have h0z : (0 : Int) < (i : Int) := by omega
        have h0d : decide ((0 : Int) < (i : Int)) = true := decide_eq_true h0z
        have hnew : Hid ((x ++ [59]) ++ tx = S3.semi ((l.take (i + 1)).map (timeS d s b m n))) := hid (by rw [HST.out, semi_snoc _ _ (HNIL.out h0), ← hx.out]; simp)
        have a1 := add_ba x [59] (by simp; omega)
        rw [show ba [59] = (⟨#[59]⟩ : ByteArray) from rfl] at a1
        have a2 := add_ba (x ++ [59]) tx (by simp; omega)
        clear h0
        go_upto_region 7 with fail
        refine wp_region_held_drew (S := TK w d s b m tb (tf + i * 4) k0 y0 u0 l0) (by kernel_rfl) HTK.out.drew (fun hHeld => ?_)
        (refine wpAnyH_take (i := 0) (oi := _) (v := ?_) rfl (by kernel_rfl) (by kernel_rfl) (by kernel_rfl) (fun _ _ _ h => h) (Or.inl ⟨by rfl, ?_⟩) (by assumption) ?_; rotate_left; (intro wS hSw; obtain ⟨⟨⟨x0, x1, x2, x3, _⟩, _⟩, t0, t1, t2, t3, _⟩ := hSw; (try simp only [List.getElem_toArray, List.getElem_cons_succ, List.getElem_cons_zero]); go_simp; (try with_reducible rfl)))
        try simp only [List.getElem_toArray, List.getElem_cons_succ, List.getElem_cons_zero, Act.put, List.setIfInBounds_toArray, List.set_cons_zero, List.set_cons_succ]
        (refine wpAnyH_take (i := 1) (oi := _) (v := ?_) rfl (by kernel_rfl) (by kernel_rfl) (by kernel_rfl) (fun _ _ _ h => h) (Or.inl ⟨by rfl, ?_⟩) (by assumption) ?_; rotate_left; (intro wS hSw; obtain ⟨⟨⟨x0, x1, x2, x3, _⟩, _⟩, t0, t1, t2, t3, _⟩ := hSw; (try simp only [List.getElem_toArray, List.getElem_cons_succ, List.getElem_cons_zero]); go_simp; (try with_reducible rfl)))
        try simp only [List.getElem_toArray, List.getElem_cons_succ, List.getElem_cons_zero, Act.put, List.setIfInBounds_toArray, List.set_cons_zero, List.set_cons_succ]
        (refine wpAnyH_take (i := 2) (oi := _) (v := ?_) rfl (by kernel_rfl) (by kernel_rfl) (by kernel_rfl) (fun _ _ _ h => h) (Or.inl ⟨by rfl, ?_⟩) (by assumption) ?_; rotate_left; (intro wS hSw; obtain ⟨⟨⟨x0, x1, x2, x3, _⟩, _⟩, t0, t1, t2, t3, _⟩ := hSw; (try simp only [List.getElem_toArray, List.getElem_cons_succ, List.getElem_cons_zero]); go_simp; (try with_reducible rfl)))
        try simp only [List.getElem_toArray, List.getElem_cons_succ, List.getElem_cons_zero, Act.put, List.setIfInBounds_toArray, List.set_cons_zero, List.set_cons_succ]
        (refine wpAnyH_take (i := 3) (oi := _) (v := ?_) rfl (by kernel_rfl) (by kernel_rfl) (by kernel_rfl) (fun _ _ _ h => h) (Or.inl ⟨by rfl, ?_⟩) (by assumption) ?_; rotate_left; (intro wS hSw; obtain ⟨⟨⟨x0, x1, x2, x3, _⟩, _⟩, t0, t1, t2, t3, _⟩ := hSw; (try simp only [List.getElem_toArray, List.getElem_cons_succ, List.getElem_cons_zero]); go_simp; (try with_reducible rfl)))
        try simp only [List.getElem_toArray, List.getElem_cons_succ, List.getElem_cons_zero, Act.put, List.setIfInBounds_toArray, List.set_cons_zero, List.set_cons_succ]
        (refine wpAnyH_take (i := 4) (oi := _) (v := ?_) rfl (by kernel_rfl) (by kernel_rfl) (by kernel_rfl) (fun _ _ _ h => h) (Or.inl ⟨by rfl, ?_⟩) (by assumption) ?_; rotate_left; (intro wS hSw; obtain ⟨⟨⟨x0, x1, x2, x3, _⟩, _⟩, t0, t1, t2, t3, _⟩ := hSw; (try simp only [List.getElem_toArray, List.getElem_cons_succ, List.getElem_cons_zero]); go_simp; (try with_reducible rfl)))
        try simp only [List.getElem_toArray, List.getElem_cons_succ, List.getElem_cons_zero, Act.put, List.setIfInBounds_toArray, List.set_cons_zero, List.set_cons_succ]
        (refine wpAnyH_take (i := 5) (oi := _) (v := ?_) rfl (by kernel_rfl) (by kernel_rfl) (by kernel_rfl) (fun _ _ _ h => h) (Or.inl ⟨by rfl, ?_⟩) (by assumption) ?_; rotate_left; (intro wS hSw; obtain ⟨⟨⟨x0, x1, x2, x3, _⟩, _⟩, t0, t1, t2, t3, _⟩ := hSw; (try simp only [List.getElem_toArray, List.getElem_cons_succ, List.getElem_cons_zero]); go_simp; (try with_reducible rfl)))
        try simp only [List.getElem_toArray, List.getElem_cons_succ, List.getElem_cons_zero, Act.put, List.setIfInBounds_toArray, List.set_cons_zero, List.set_cons_succ]
        (refine wpAnyH_ready (rs := [6]) (by kernel_rfl) (by simp) ?_; refine AllReadyH.cons (o := _) rfl (fun K hK => ?_) AllReadyH.nil; (try simp only [List.getElem_toArray, List.getElem_cons_succ, List.getElem_cons_zero]); go_simp; go_at_call 40; refine (CF.out _ hHeld.g.b).mono ?_; rintro e w2 ⟨rfl, hb2⟩; have hHeld := hHeld.next hb2; clear hb2; go_wp2_with fail; refine hK.out _ _ hHeld (fun hHeld => ?_); clear hK K)
        try simp only [List.getElem_toArray, List.getElem_cons_succ, List.getElem_cons_zero, Act.put, List.setIfInBounds_toArray, List.set_cons_zero, List.set_cons_succ]
        (refine wpAnyH_take (i := 7) (oi := _) (v := ?_) rfl (by kernel_rfl) (by kernel_rfl) (by kernel_rfl) (fun _ _ _ h => h) (Or.inl ⟨by rfl, ?_⟩) (by assumption) ?_; rotate_left; (intro wS hSw; obtain ⟨⟨⟨x0, x1, x2, x3, _⟩, _⟩, t0, t1, t2, t3, _⟩ := hSw; (try simp only [List.getElem_toArray, List.getElem_cons_succ, List.getElem_cons_zero]); go_simp; (try with_reducible rfl)))
        try simp only [List.getElem_toArray, List.getElem_cons_succ, List.getElem_cons_zero, Act.put, List.setIfInBounds_toArray, List.set_cons_zero, List.set_cons_succ]
        (refine wpAnyH_take (i := 8) (oi := _) (v := ?_) rfl (by kernel_rfl) (by kernel_rfl) (by kernel_rfl) (fun _ _ _ h => h) (Or.inl ⟨by rfl, ?_⟩) (by assumption) ?_; rotate_left; (intro wS hSw; obtain ⟨⟨⟨x0, x1, x2, x3, _⟩, _⟩, t0, t1, t2, t3, _⟩ := hSw; (try simp only [List.getElem_toArray, List.getElem_cons_succ, List.getElem_cons_zero]); go_simp; (try with_reducible rfl)))
        try simp only [List.getElem_toArray, List.getElem_cons_succ, List.getElem_cons_zero, Act.put, List.setIfInBounds_toArray, List.set_cons_zero, List.set_cons_succ]
        (refine wpAnyH_take (i := 9) (oi := _) (v := ?_) rfl (by kernel_rfl) (by kernel_rfl) (by kernel_rfl) (fun _ _ _ h => h) (Or.inl ⟨by rfl, ?_⟩) (by assumption) ?_; rotate_left; (intro wS hSw; obtain ⟨⟨⟨x0, x1, x2, x3, _⟩, _⟩, t0, t1, t2, t3, _⟩ := hSw; (try simp only [List.getElem_toArray, List.getElem_cons_succ, List.getElem_cons_zero]); go_simp; (try with_reducible rfl)))
        try simp only [List.getElem_toArray, List.getElem_cons_succ, List.getElem_cons_zero, Act.put, List.setIfInBounds_toArray, List.set_cons_zero, List.set_cons_succ]
        (refine wpAnyH_take (i := 10) (oi := _) (v := ?_) rfl (by kernel_rfl) (by kernel_rfl) (by kernel_rfl) (fun _ _ _ h => h) (Or.inl ⟨by rfl, ?_⟩) (by assumption) ?_; rotate_left; (intro wS hSw; obtain ⟨⟨⟨x0, x1, x2, x3, _⟩, _⟩, t0, t1, t2, t3, _⟩ := hSw; (try simp only [List.getElem_toArray, List.getElem_cons_succ, List.getElem_cons_zero]); go_simp; (try with_reducible rfl)))
        try simp only [List.getElem_toArray, List.getElem_cons_succ, List.getElem_cons_zero, Act.put, List.setIfInBounds_toArray, List.set_cons_zero, List.set_cons_succ]
        (refine wpAnyH_take (i := 11) (oi := _) (v := ?_) rfl (by kernel_rfl) (by kernel_rfl) (by kernel_rfl) (fun _ _ _ h => h) (Or.inl ⟨by rfl, ?_⟩) (by assumption) ?_; rotate_left; (intro wS hSw; obtain ⟨⟨⟨x0, x1, x2, x3, _⟩, _⟩, t0, t1, t2, t3, _⟩ := hSw; (try simp only [List.getElem_toArray, List.getElem_cons_succ, List.getElem_cons_zero]); go_simp; (try with_reducible rfl)))
        try simp only [List.getElem_toArray, List.getElem_cons_succ, List.getElem_cons_zero, Act.put, List.setIfInBounds_toArray, List.set_cons_zero, List.set_cons_succ]
        refine wpAnyH_done (by kernel_rfl) ?_ _
        have HK2 := hid hHeld.g
        clear CF
        go_wp2
        go_roundw
        case rel => exact ⟨i + 1, (x ++ [59]) ++ tx, by go_num, by omega, by simp, hnew, HK2⟩
        case measure => simp [RowKit.intOf]; omega
    · have hltz : ¬ (i : Int) < (l.length : Int) := by omega
      have hpe : Hid (x = S3.semi (l.map (timeS d s b m n))) := hid (by rw [hx.out, List.take_of_length_le (by omega)])
      go_wp2
      go_ret
      exact ⟨by rw [hpe.out]; rfl, hK.out.b⟩
end Go.Proofs.YteckefolakjafaaGreatDoor

set_option linter.unusedVariables false
namespace Go.Proofs.YteckefolakjafaaGreatDoor
open Go Go.Proofs Go.ChangeShapes Go.WideShapes Go.ChangeAt Go.RowKit

section
variable {H : Type} {enc : TypeId × Value → H} {P : Program}
/-- Arguments below the heap's old size read as they did. -/
theorem trodAll_stays (hl : laidOutB P = true) {W W' : World} (hb : Below W.heap.size W W') {sp : Nat → Bool} : ∀ {ts : List TypeId} {vs : List Value} {ds : List (DataW H)} {ps : List MemPlace},
    (∀ t ∈ ts, P.readableRec t = true ∧ t < P.types.size) → DataW.TrodAll enc P W 0 (fun _ => true) true ts vs ds ps → (∀ x ∈ ps, x.block < W.heap.size) → (∀ x ∈ ps, sp x.block = true) → DataW.TrodAll enc P W' 0 sp true ts vs ds ps
  | [], vs, ds, ps, _, h, _, _ => by
    obtain ⟨rfl, rfl, rfl⟩ := trodAll_nil h
    exact trodAll_mk0
  | t :: ts, vs, ds, ps, ht, h, hlt, hsp => by
    obtain ⟨v, vs', d, ds', p, q, rfl, rfl, rfl, h0, hr⟩ := trodAll_cons h
    have hp : ∀ x ∈ p, x.block < W.heap.size := fun x hx => hlt x (List.mem_append.2 (.inl hx))
    refine trodAll_cons_mk (WideElems.Trod_stays hl (ht t (by simp)).1 (ht t (by simp)).2 h0 (fun x hx => hb.same (hp x hx)) (fun x hx => hsp x (List.mem_append.2 (.inl hx)))) ?_
    exact trodAll_stays hl hb (fun t' h' => ht t' (by simp [h'])) hr (fun x hx => hlt x (List.mem_append.2 (.inr hx))) (fun x hx => hsp x (List.mem_append.2 (.inr hx)))

/-- The law's end. -/
theorem law_post {f : Func} {s : ChangeSpec} {apart fresh again : Bool} {tb : TypeId} {W W' : World} {args : Array Value} {ds gs : List (DataW H)} {before : List MemPlace}
    (hl : laidOutB P = true) (hts : ∀ t ∈ f.params.toList, P.readableRec t = true ∧ t < P.types.size) (hres : f.resultTypes = #[tb]) (htb : P.underlying tb = some .bool)
    (hvars : s.vars = []) (hfn : s.fn H (ds ++ gs) = { results := [.lit (.bool true)], args := ds, vars := [] })
    (hW : DataW.Whole enc P f.params.toList s.vars apart W args.toList ds gs before) (hb : Below W.heap.size W W') :
    s.post enc P f apart fresh false again W args (.bool true) W' := by
  have hlt : ∀ p ∈ before, p.block < W.heap.size := fun p hp => hW.lt p hp
  have hW0 := hW
  obtain ⟨p, q, hA, hV, hpq, hz, hn⟩ := hW0
  rw [hvars] at hV
  obtain ⟨rfl, rfl⟩ := trodVars_none hV
  rw [List.append_nil] at hpq
  subst hpq
  have hr : ∀ (b : Nat) (sp : Nat → Bool) (hd : Bool), DataW.TrodAll enc P W' b sp hd f.resultTypes.toList ((Value.bool true).resultList f.resultTypes.size) (s.fn H (ds ++ [])).results [] := fun b sp hd => by
    rw [hres, hfn]
    exact trodAll_cons_mk (shut_bool htb true) trodAll_mk0
  have ha : ∀ sp : Nat → Bool, (∀ x ∈ before, sp x.block = true) → DataW.TrodAll enc P W' 0 sp true f.params.toList args.toList (s.fn H (ds ++ [])).args before := fun sp hsp => by
    rw [hfn]
    exact trodAll_stays hl hb hts hA hlt hsp
  have hold : ∀ x ∈ before, (fun b => decide (b < W.heap.size)) x.block = true := fun x hx => by simpa using hlt x hx
  have hvs : ∀ sp : Nat → Bool, DataW.TrodVars enc P W' sp s.vars (s.fn H (ds ++ [])).vars [] := fun sp => by
    rw [hvars, hfn]
    exact rfl
  refine ⟨ds, [], before, [], before, [], hW, hr _ _ _, ha _ hold, hvs _, World.keptBut_mono (fun x hx => ⟨hx, .inr (.inl hx)⟩) (hb.frame (· ∈ before)), fun _ => ?_⟩
  refine ⟨?_, _, _, ([] ++ before) ++ [], ⟨[] ++ before, [], trodAll_append (ha _ (fun _ _ => rfl)) (hr _ _ _), hvs _, rfl, ?_, ?_⟩, ?_⟩
  · intro j t r hj hr'
    rw [hres] at hj hr'
    match j, hj, hr' with
    | 0, hj, hr' =>
      simp at hj
      subst hj
      obtain rfl : (Value.bool true) = r := by simpa [Value.resultList] using hr'
      exact okWide_bool_mk htb true
    | j + 1, hj, _ => simp at hj
  · intro b off hp
    have hin : MemPlace.cell b off ∈ before := by simpa using hp
    rw [hb.frozen (hlt _ hin)]
    exact hz b off hin
  · intro h
    simpa using hn h
  · intro x hx _
    simpa using hx
end

theorem own : ownKnob Tryz.prog.godebug = none := by kernel_rfl
theorem laidOut : laidOutB Tryz.prog = true := by kernel_rfl
theorem row3 : Tryz.prog.readableRec 3 = true ∧ 3 < Tryz.prog.types.size := ⟨by kernel_rfl, of_decide_eq_true (by kernel_rfl)⟩
theorem row9 : Tryz.prog.readableRec 9 = true ∧ 9 < Tryz.prog.types.size := ⟨by kernel_rfl, of_decide_eq_true (by kernel_rfl)⟩
theorem rowRooms : Tryz.prog.readableRec 22 = true ∧ 22 < Tryz.prog.types.size := ⟨by kernel_rfl, of_decide_eq_true (by kernel_rfl)⟩
theorem rowRecs : Tryz.prog.readableRec 33 = true ∧ 33 < Tryz.prog.types.size := ⟨by kernel_rfl, of_decide_eq_true (by kernel_rfl)⟩
theorem rowGrid : Tryz.prog.readableRec 24 = true ∧ 24 < Tryz.prog.types.size := ⟨by kernel_rfl, of_decide_eq_true (by kernel_rfl)⟩
theorem rowTime : Tryz.prog.readableRec 55 = true ∧ 55 < Tryz.prog.types.size := ⟨by kernel_rfl, of_decide_eq_true (by kernel_rfl)⟩
theorem uErr : Tryz.prog.underlying 131 = some (.interface #[("Error", 134)]) := by kernel_rfl
theorem star : "*" ++ "errors.errorString" = "*errors.errorString" := by decide
theorem rowPtr (u : TypeId) (h : Tryz.prog.typeName? 3 u = some "*errors.errorString") : u = 240 :=
  typeName_ptr_named (nm := "errors.errorString") (by rw [star]; kernel_rfl) (by kernel_rfl) (by decide) u (by rw [star]; exact h)
theorem gSyn : Tryz.prog.globalNamed "strconv.ErrSyntax" = some 6 := by kernel_rfl
theorem gWords : Tryz.prog.globalNamed "timetable/timetableref05.words" = some 2 := by kernel_rfl
theorem gNames : Tryz.prog.globalNamed "timetable/weekset.names" = some 4 := by kernel_rfl
theorem gDays : Tryz.prog.globalNamed "timetable/timegrid.days" = some 1 := by kernel_rfl
theorem gRDays : Tryz.prog.globalNamed "timetable/timetableref06.days" = some 0 := by kernel_rfl
section
variable {H : Type} {enc : TypeId × Value → H} {w : World} {base : Nat} {sp : Nat → Bool} {held : Bool}
theorem take1 {cs : List Value} {k : Nat} {v : Value} (h : (cs.drop k).take 1 = [v]) : cs[k]? = some v := by
  have := congrArg (·[0]?) h
  simpa [List.getElem?_take, List.getElem?_drop] using this
theorem word_cell {fuel : Nat} {cs : List Value} {p : List MemPlace} (h : DataW.trod enc Tryz.prog w base sp held fuel 137 cs = some (Rows.laid_timetable_timetableref05_words, p)) (k : Nat) (hk : k < 5) : cs[k]? = some (.string ⟨(wordS k).toArray⟩) := by
  obtain ⟨f', d, q, hd, ht⟩ := Lib.array_elem Tryz.underlying137 h k hk
  rw [show Tryz.prog.cellsOf 9 = 1 by kernel_rfl, Nat.mul_one] at ht
  obtain ⟨s, hcs, hx, _⟩ := DataW.trod_string Tryz.underlying9 ht
  rw [take1 hcs]
  injection hx with hx _
  subst hx
  have e : lst s = wordS k := by
    rcases (show k = 0 ∨ k = 1 ∨ k = 2 ∨ k = 3 ∨ k = 4 by omega) with rfl | rfl | rfl | rfl | rfl
    all_goals
      injection hd with hd
      injection hd with hd
      injection hd with hd
      exact hd.symm
  rw [ba_of e]
  rfl
theorem name_cells {fuel : Nat} {cs : List Value} {d : List (DataW H)} {p : List MemPlace} {T : Str} {m : Int} {a b : Bool} (h : DataW.trod enc Tryz.prog w base sp held fuel 204 cs = some (.agg d, p)) (hd : d = [.lit (.string T), .lit (.int .i64 m), .lit (.bool a), .lit (.bool b)]) :
    cs = [.string ⟨T.toArray⟩, .int .i64 m, .bool a, .bool b] := by
  obtain ⟨y0, y1, y2, y3, n, hx, hl, h0, h1, h2, h3⟩ := Joins.trod_struct4 Tryz.underlying204 h
  rw [show Tryz.prog.cellsOf 204 = 4 by kernel_rfl] at hl
  dsimp only at h0 h1 h2 h3
  rw [show Tryz.prog.cellsOf 9 = 1 by kernel_rfl] at h0
  rw [show Tryz.prog.cellsOf 3 = 1 by kernel_rfl] at h1
  rw [show Tryz.prog.cellsOf 4 = 1 by kernel_rfl] at h2 h3
  obtain ⟨s, hc0, rfl, _⟩ := DataW.trod_string Tryz.underlying9 h0
  obtain ⟨z, hc1, rfl, _⟩ := DataW.trod_int Tryz.underlying3 h1
  obtain ⟨x, hc2, rfl⟩ := DataW.trod_bool Tryz.underlying4 h2
  obtain ⟨y, hc3, rfl⟩ := DataW.trod_bool Tryz.underlying4 h3
  rw [hd] at hx
  simp only [Prod.mk.injEq, DataW.agg.injEq, List.cons.injEq, DataW.lit.injEq, Lit.string.injEq, Lit.int.injEq, Lit.bool.injEq, true_and, and_true] at hx
  obtain ⟨⟨hT, rfl, rfl, rfl⟩, _⟩ := hx
  have e : (⟨T.toArray⟩ : ByteArray) = s := by rw [hT]
  rw [e]
  match cs, hl with
  | [c0, c1, c2, c3], _ =>
    have := take1 hc0
    have := take1 hc1
    have := take1 hc2
    have := take1 hc3
    simp_all
theorem name_cell {fuel : Nat} {cs : List Value} {p : List MemPlace} (h : DataW.trod enc Tryz.prog w base sp held fuel 205 cs = some (Rows.laid_timetable_weekset_names, p)) (k : Nat) (hk : k < 5) : (cs.drop (k * 4)).take 4 = (nv k).toList := by
  obtain ⟨f', d, q, hd, ht⟩ := Lib.array_elem Tryz.underlying205 h k hk
  rw [show Tryz.prog.cellsOf 204 = 4 by kernel_rfl] at ht
  rcases (show k = 0 ∨ k = 1 ∨ k = 2 ∨ k = 3 ∨ k = 4 by omega) with rfl | rfl | rfl | rfl | rfl
  all_goals
    injection hd with hd
    rw [← hd] at ht
    exact name_cells ht rfl
theorem day_cell {fuel : Nat} {cs : List Value} {p : List MemPlace} (h : DataW.trod enc Tryz.prog w base sp held fuel 106 cs = some (Rows.laid_timetable_timegrid_days, p)) (k : Nat) (hk : k < 7) : cs[k]? = some (.string (ba (dayS k))) := by
  obtain ⟨f', d, q, hd, ht⟩ := Lib.array_elem Tryz.underlying106 h k hk
  rw [show Tryz.prog.cellsOf 9 = 1 by kernel_rfl, Nat.mul_one] at ht
  obtain ⟨s, hcs, hx, _⟩ := DataW.trod_string Tryz.underlying9 ht
  rw [take1 hcs]
  injection hx with hx _
  subst hx
  have e : lst s = dayS k := by
    rcases (show k = 0 ∨ k = 1 ∨ k = 2 ∨ k = 3 ∨ k = 4 ∨ k = 5 ∨ k = 6 by omega) with rfl | rfl | rfl | rfl | rfl | rfl | rfl
    all_goals
      injection hd with hd
      injection hd with hd
      injection hd with hd
      exact hd.symm
  rw [ba_of e]
theorem rday_cell {fuel : Nat} {cs : List Value} {p : List MemPlace} (h : DataW.trod enc Tryz.prog w base sp held fuel 106 cs = some (Rows.laid_timetable_timetableref06_days, p)) (k : Nat) (hk : k < 7) : cs[k]? = some (.string (ba (dayS k))) := by
  obtain ⟨f', d, q, hd, ht⟩ := Lib.array_elem Tryz.underlying106 h k hk
  rw [show Tryz.prog.cellsOf 9 = 1 by kernel_rfl, Nat.mul_one] at ht
  obtain ⟨s, hcs, hx, _⟩ := DataW.trod_string Tryz.underlying9 ht
  rw [take1 hcs]
  injection hx with hx _
  subst hx
  have e : lst s = dayS k := by
    rcases (show k = 0 ∨ k = 1 ∨ k = 2 ∨ k = 3 ∨ k = 4 ∨ k = 5 ∨ k = 6 by omega) with rfl | rfl | rfl | rfl | rfl | rfl | rfl
    all_goals
      injection hd with hd
      injection hd with hd
      injection hd with hd
      exact hd.symm
  rw [ba_of e]
end
theorem nameCells_at : ∀ (j : Nat) (v : Value), nameCells[j]? = some v → j / 4 < 5 ∧ (nv (j / 4)).toList[j % 4]? = some v := by
  intro j v h
  have hj : j < 20 := (List.getElem?_eq_some_iff.1 h).1
  rcases (show j = 0 ∨ j = 1 ∨ j = 2 ∨ j = 3 ∨ j = 4 ∨ j = 5 ∨ j = 6 ∨ j = 7 ∨ j = 8 ∨ j = 9 ∨ j = 10 ∨ j = 11 ∨ j = 12 ∨ j = 13 ∨ j = 14 ∨ j = 15 ∨ j = 16 ∨ j = 17 ∨ j = 18 ∨ j = 19 by omega) with rfl | rfl | rfl | rfl | rfl | rfl | rfl | rfl | rfl | rfl | rfl | rfl | rfl | rfl | rfl | rfl | rfl | rfl | rfl | rfl
  all_goals exact ⟨by decide, h⟩
/-- The variable ErrSyntax holds an error. -/
theorem errSyntax_of0 {W : World} (hL : laidMet Tryz.prog Rows.roomfileValidRow.laid W) : ∃ ev, W.cell? ⟨6, 0, none⟩ = some ev ∧ (ev = .nilIface ∨ ∃ te pe, ev = .iface te pe) := by
  obtain ⟨a, s, hv, _⟩ := laid_sentinel hL.tail.tail.tail.tail.tail.tail.tail gSyn (ti := 131) (tp := 240) (te := 242) (ts := 9) (f := { name := "s", type := 9, offset := 0, embedded := false, tag := "", pkgPath := "errors", byteOffset := 0 }) (ms := #[("Error", 134)]) (by kernel_rfl) uErr rowPtr (by kernel_rfl) (by kernel_rfl) rfl rfl (by kernel_rfl) (by kernel_rfl) (by kernel_rfl)
  exact ⟨_, World.var?_cell gSyn hv 0, .inr ⟨_, _, rfl⟩⟩
theorem names_of0 {W : World} (hL : laidMet Tryz.prog Rows.roomfileValidRow.laid W) : Names W := by
  have h8 : ("timetable/weekset.names", (Rows.laid_timetable_weekset_names : DataW Unit)) ∈ Rows.roomfileValidRow.laid := .tail _ (.tail _ (.tail _ (.tail _ (.tail _ (.tail _ (.tail _ (.tail _ (.head _))))))))
  obtain ⟨g, t, cs, fuel, p, hg, hty, hvar, hd⟩ := Lib.laidMet.reads hL h8
  obtain rfl := Option.some.inj (gNames.symm.trans hg)
  obtain rfl := Option.some.inj ((show (Tryz.prog.globals[4]?).map (·.type) = some 205 by kernel_rfl).symm.trans hty)
  intro j v hj
  rw [World.var?_cell gNames hvar j, ← Array.getElem?_toList]
  obtain ⟨h5, hv⟩ := nameCells_at j v hj
  rw [← name_cell hd (j / 4) h5, List.getElem?_take, if_pos (by omega), List.getElem?_drop, show j / 4 * 4 + j % 4 = j by omega] at hv
  exact hv
theorem env_of0 {W : World} (hL : laidMet Tryz.prog Rows.roomfileValidRow.laid W) : Env W := by
  obtain ⟨ev, h1, h2⟩ := errSyntax_of0 hL
  exact ⟨names_of0 hL, ⟨ev, h1, h2⟩, World.block_lt_of_cell? W _ h1⟩
theorem words_of0 {W : World} (hL : laidMet Tryz.prog Rows.roomfileValidRow.laid W) : Words W := by
  have h4 : ("timetable/timetableref05.words", (Rows.laid_timetable_timetableref05_words : DataW Unit)) ∈ Rows.roomfileValidRow.laid := .tail _ (.tail _ (.tail _ (.head _)))
  obtain ⟨g, t, cs, fuel, p, hg, hty, hvar, hd⟩ := Lib.laidMet.reads hL h4
  obtain rfl := Option.some.inj (gWords.symm.trans hg)
  obtain rfl := Option.some.inj ((show (Tryz.prog.globals[2]?).map (·.type) = some 137 by kernel_rfl).symm.trans hty)
  intro k hk
  rw [World.var?_cell gWords hvar k, ← Array.getElem?_toList]
  exact word_cell hd k hk
theorem days_of0 {W : World} (hL : laidMet Tryz.prog Rows.roomfileValidRow.laid W) : Days W := by
  have h4 : ("timetable/timegrid.days", (Rows.laid_timetable_timegrid_days : DataW Unit)) ∈ Rows.roomfileValidRow.laid := .tail _ (.tail _ (.tail _ (.tail _ (.tail _ (.tail _ (.tail _ (.tail _ (.tail _ (.head _)))))))))
  obtain ⟨g, t, cs, fuel, p, hg, hty, hvar, hd⟩ := Lib.laidMet.reads hL h4
  obtain rfl := Option.some.inj (gDays.symm.trans hg)
  obtain rfl := Option.some.inj ((show (Tryz.prog.globals[1]?).map (·.type) = some 106 by kernel_rfl).symm.trans hty)
  intro j v hj
  have hj7 : j < 7 := (List.getElem?_eq_some_iff.1 hj).1
  rw [World.var?_cell gDays hvar j, ← Array.getElem?_toList, day_cell hd j hj7, ← hj]
  rcases (show j = 0 ∨ j = 1 ∨ j = 2 ∨ j = 3 ∨ j = 4 ∨ j = 5 ∨ j = 6 by omega) with rfl | rfl | rfl | rfl | rfl | rfl | rfl <;> rfl
theorem rdays_of0 {W : World} (hL : laidMet Tryz.prog Rows.roomfileValidRow.laid W) : RDays W := by
  have h4 : ("timetable/timetableref06.days", (Rows.laid_timetable_timetableref06_days : DataW Unit)) ∈ Rows.roomfileValidRow.laid := .tail _ (.tail _ (.tail _ (.tail _ (.head _))))
  obtain ⟨g, t, cs, fuel, p, hg, hty, hvar, hd⟩ := Lib.laidMet.reads hL h4
  obtain rfl := Option.some.inj (gRDays.symm.trans hg)
  obtain rfl := Option.some.inj ((show (Tryz.prog.globals[0]?).map (·.type) = some 106 by kernel_rfl).symm.trans hty)
  intro j v hj
  have hj7 : j < 7 := (List.getElem?_eq_some_iff.1 hj).1
  rw [World.var?_cell gRDays hvar j, ← Array.getElem?_toList, rday_cell hd j hj7, ← hj]
  rcases (show j = 0 ∨ j = 1 ∨ j = 2 ∨ j = 3 ∨ j = 4 ∨ j = 5 ∨ j = 6 by omega) with rfl | rfl | rfl | rfl | rfl | rfl | rfl <;> rfl
theorem maxLen_of {W : World} (h : W.ShapedOpen Tryz.prog) : ∃ m, W.cell? ⟨5, 0, none⟩ = some (.int .i64 m) :=
  cell_of_shapedOpen_int (t := 3) (zero := #[.int .i64 0]) h (of_decide_eq_true (by kernel_rfl)) (by kernel_rfl) rfl (by kernel_rfl) (by kernel_rfl) Tryz.underlying3
theorem env3_of {W : World} (hL : laidMet Tryz.prog Rows.roomfileValidRow.laid W) (hsh : W.ShapedOpen Tryz.prog) : S3.Env W := by
  have h5 : ("internal/strconv.uint64pow10", (Rows.laid_internal_strconv_uint64pow10 : DataW Unit)) ∈ Rows.roomfileValidRow.laid := .tail _ (.tail _ (.head _))
  refine ⟨maxLen_of hsh, errSyntax_of0 hL, ?_, (env_of0 hL).size⟩
  obtain ⟨g, t, cs, fuel, p, hg, hty, hvar, hd⟩ := Lib.laidMet.reads hL h5
  obtain rfl := Option.some.inj (S3.gTab.symm.trans hg)
  obtain rfl := Option.some.inj ((show (Tryz.prog.globals[3]?).map (·.type) = some 201 by kernel_rfl).symm.trans hty)
  have hcs := Lib.cells_of_tab (n := 20) (e := 160) (zs := Lib.pow10Tab) (k := .u64) (by kernel_rfl) (by kernel_rfl) (by kernel_rfl) (by kernel_rfl) hd
  unfold Lib.TabIs
  rw [hvar, ← hcs]
theorem env7_of {W : World} (hL : laidMet Tryz.prog Rows.roomfileValidRow.laid W) (hsh : W.ShapedOpen Tryz.prog) : Env7 W := ⟨env_of0 hL, env3_of hL hsh, days_of0 hL⟩
theorem renv7_of {W : World} (hL : laidMet Tryz.prog Rows.roomfileValidRow.laid W) : REnv7 W := ⟨words_of0 hL, rdays_of0 hL, (env_of0 hL).size⟩
/-- A world in which the variables hold what their initialisers lay. -/
def cellsOfAgg : DataW Unit → Array Value
  | .agg l => (l.map fun | .lit (.int k z) => Value.int k z | _ => undef).toArray
  | _ => #[]
def acceptCells : Array Value := ((List.range 16).flatMap fun i => [Value.int .u8 (Lib.accLo i), Value.int .u8 (Lib.accHi i)]).toArray
def firstCells : Array Value := ((List.range 256).map fun b => Value.int .u8 (Lib.firstT b)).toArray
noncomputable def laidWorld (os : Os) : World :=
  let N := (World.settled Tryz.prog os).heap.size
  let w0 := World.holding Tryz.prog os ⟨#[.cells #[.string ⟨#[105, 110, 118, 97, 108, 105, 100, 32, 115, 121, 110, 116, 97, 120]⟩] 242, .cells #[.string ⟨#[118, 97, 108, 117, 101, 32, 111, 117, 116, 32, 111, 102, 32, 114, 97, 110, 103, 101]⟩] 242], #[], []⟩
  let put (h : Array Obj) (g : Nat) (cs : Array Value) : Array Obj := h.modify g fun
    | .cells _ t frozen => .cells cs t frozen
    | o => o
  let h3 := put (put (put (put (put (put (put (put (put (put (put (w0.heap) 2 #[.string ⟨#[97, 108, 108]⟩, .string ⟨#[111, 100, 100]⟩, .string ⟨#[101, 118, 101, 110]⟩, .string ⟨#[102, 105, 114, 115, 116]⟩, .string ⟨#[115, 101, 99, 111, 110, 100]⟩]) 4 nameCells.toArray) 1 dayCells.toArray) 0 dayCells.toArray) 8 firstCells) 9 acceptCells) 6 #[.iface 240 (.pointer (some ⟨N, 0, none⟩))]) 7 #[.iface 240 (.pointer (some ⟨N + 1, 0, none⟩))]) 3 (cellsOfAgg Rows.laid_internal_strconv_uint64pow10)) 10 (cellsOfAgg Rows.laid_math_bits_deBruijn32tab)) 11 (cellsOfAgg Rows.laid_math_bits_deBruijn64tab)
  { w0 with heap := h3 }
end Go.Proofs.YteckefolakjafaaGreatDoor

