/-
  The text of a list of times by the specification: WriteTimes. Conditions: the times lie in memory, at most 24; the variables hold what their text lays.
  A number with a width: the law's wide. Conditions: the number is not negative and below 2^31; the width is at most 16.
  The runs of the reference's Join, one after another: mathematics.
  The records of rooms by the specification: Write. Conditions: the rooms lie in memory; the variables hold what their text lays.
-/
import Derived.Test.YtnpfmoalgphkcaaGreatDoorVA18
import Derived.Test.YtnpfmoalgphkcaaGreatDoorVA25
import Derived.Test.YtnpfmoalgphkcaaGreatDoorVA15
import Derived.Test.YtnpfmoalgphkcaaGreatDoorVA17
import Derived.Test.YtnpfmoalgphkcaaGreatDoorVA13
import Derived.Test.YtnpfmoalgphkcaaGreatDoorVA01
import Derived.Test.YtnpfmoalgphkcaaGreatDoorVA14
import Derived.Test.YtnpfmoalgphkcaaGreatDoorVA24
import Derived.Test.YtnpfmoalgphkcaaGreatDoorVA23
import Derived.StillTailTactics
import Derived.RangeFuncBox
import Derived.BigQuiet
import Derived.Laws.OwnMore
import Derived.Deep.RegionHeld3
import Derived.Deep.DeepCutAuto
import Derived.Deep.QuietTactic
import Derived.Deep.CutBlock
import Derived.Deep.AppendLies
set_option linter.unusedVariables false
namespace Go.Proofs.YtnpfmoalgphkcaaGreatDoor
open Go Go.Proofs Go.RowKit Go.Lib

theorem semi_snoc : ∀ (l : List Str) (x : Str), l ≠ [] → S3.semi (l ++ [x]) = S3.semi l ++ 59 :: x
  | [], x, h => absurd rfl h
  | [p], x, _ => rfl
  | p :: q :: r, x, _ => by
    have ih := semi_snoc (q :: r) x (by simp)
    show p ++ 59 :: S3.semi (q :: r ++ [x]) = (p ++ 59 :: S3.semi (q :: r)) ++ 59 :: x
    rw [ih]
    simp
/-- The grid's box and a time of a list. -/
structure TK (w0 : World) (d s b m : Int) (tb o : Nat) (k y u l : Int) (w : World) : Prop where
  g : K1 w0 d s b m w
  c0 : w.cell? ⟨tb, o, none⟩ = some (.int .i64 k)
  c1 : w.cell? ⟨tb, o + 1, none⟩ = some (.int .i64 y)
  c2 : w.cell? ⟨tb, o + 2, none⟩ = some (.int .i64 u)
  c3 : w.cell? ⟨tb, o + 3, none⟩ = some (.int .i64 l)
  z : tb < w0.heap.size
theorem TK.next {w0 w w' : World} {d s b m : Int} {tb o : Nat} {k y u l : Int} (h : TK w0 d s b m tb o k y u l w) (q : Below w.heap.size w w') : TK w0 d s b m tb o k y u l w' := by
  have kc : ∀ p : Nat, w'.cell? ⟨tb, p, none⟩ = w.cell? ⟨tb, p, none⟩ := fun p => q.cell (p := ⟨tb, p, none⟩) (Nat.lt_of_lt_of_le h.z h.g.b.size)
  exact ⟨h.g.next q, (kc _).trans h.c0, (kc _).trans h.c1, (kc _).trans h.c2, (kc _).trans h.c3, h.z⟩
theorem TK.drew {w0 w : World} {d s b m : Int} {tb o : Nat} {k y u l : Int} (h : TK w0 d s b m tb o k y u l w) : TK w0 d s b m tb o k y u l w.drew := h.next (Below.refl _ w).drew

set_option maxHeartbeats 8000000 in
set_option maxRecDepth 100000 in
theorem rwriteTimes_any (d s b m n : Int) (A : Option Addr) (l : List TimeD) (c B : Nat) (w : World) (hB : B ≤ w.heap.size) (h : TimesIn w (fun k => k < B) A l) (hl : l.length ≤ 24) (hE : REnv7 w) :
    Calls Tryz.prog 32 #[.slice A l.length c, .agg #[.int .i64 d, .int .i64 s, .int .i64 b, .int .i64 m], .int .i64 n] w (Says (.string (ba (timesS d s b m n l))) w) := by
  unfold Says timesS
  have hk := K1.first w d s b m 24
  have HK := hid hk
  have HH := hid h
  have HE := hid (fun (w' : World) (hb : Below w.heap.size w w') => hE.below hb (Nat.le_refl _))
  clear hk h hE
  go_enter Tryz.func32, Tryz.ntmps32
  go_wp2
  go_loopw [7, 8, 9, 10] (fun v iv _ _ wr => ∃ (i : Nat) (x : Str), iv = .int .i64 (i : Int) ∧ i ≤ l.length ∧ v = .string (ba x) ∧ Hid (x = S3.semi ((l.take i).map (timeS d s b m n))) ∧ Hid (K1 w d s b m wr)) (fun _ iv _ _ _ => l.length - (RowKit.intOf iv).toNat)
  case atStart => exact ⟨0, [], rfl, Nat.zero_le _, rfl, hid rfl, hid HK.out⟩
  case round =>
    obtain ⟨i, x, rfl, hi, rfl, hx, hK⟩ := hrel
    by_cases hlt : i < l.length
    · have hltz : (i : Int) < (l.length : Int) := by omega
      have di : decide (l.length ≤ i) = false := decide_eq_false (by omega)
      have hHH := (HH.out.mono (fun k hk => Nat.lt_of_lt_of_le hk hB)).below hK.out.b
      have hle := hHH.le hlt
      obtain ⟨tb, tf, rfl, htb, t0, t1, t2, t3⟩ := hHH.at_ hlt
      have hst : (l.take (i + 1)).map (timeS d s b m n) = (l.take i).map (timeS d s b m n) ++ [timeS d s b m n l[i]] := by rw [List.take_succ_eq_append_getElem hlt, List.map_append]; rfl
      have hxl : x.length ≤ 10000 := by
        rw [hx.out]
        refine Nat.le_trans (semi_len300 _ (fun p hp => ?_)) (by rw [List.length_map, List.length_take]; omega)
        obtain ⟨t, _, rfl⟩ := List.mem_map.1 hp
        exact timeS_len _ _ _ _ _ t
      have htl := timeS_len d s b m n l[i]
      have hnil : ∀ h : i ≠ 0, (l.take i).map (timeS d s b m n) ≠ [] := fun h e => by
        have := congrArg List.length e
        rw [List.length_map, List.length_take, List.length_nil] at this
        omega
      have hfirst : i = 0 → (l.take i).map (timeS d s b m n) = [] := fun h => by subst h; rfl
      obtain ⟨⟨k0, y0, u0, l0⟩, ht⟩ : ∃ t, l[i] = t := ⟨_, rfl⟩
      rw [ht] at t0 t1 t2 t3 hle hst htl
      dsimp only at t0 t1 t2 t3 hle
      have htk : TK w d s b m tb (tf + i * 4) k0 y0 u0 l0 wr := ⟨hK.out, t0, t1, t2, t3, htb⟩
      have HTK := hid htk
      have cF := hid (fun w' hb => rtformat_any d s b m n k0 y0 u0 l0 w' (HE.out w' hb).z (HE.out w' hb).wd (HE.out w' hb).d)
      have hts : (textT d s b m n k0 y0 u0 l0).1 = timeS d s b m n (k0, y0, u0, l0) := rfl
      obtain ⟨⟨tx, te⟩, hR⟩ : ∃ R, textT d s b m n k0 y0 u0 l0 = R := ⟨_, rfl⟩
      have cF' := cF.out
      unfold FormOut at cF'
      rw [hR] at cF' hts
      dsimp only at cF' hts
      rw [← hts] at hst htl
      have CF := hid cF'
      have HST := hid hst
      have HNIL := hid hnil
      have HFIRST := hid hfirst
      clear cF cF' hst hR hts ht hHH hle hnil hfirst HE htk t0 t1 t2 t3
      by_cases h0 : i = 0
      · have h0z : ¬ (0 : Int) < (i : Int) := by omega
        have h0d : decide ((0 : Int) < (i : Int)) = false := decide_eq_false h0z
        have hx0 : Hid (x = []) := hid (by rw [hx.out, HFIRST.out h0]; rfl)
        have hnew : Hid (x ++ tx = S3.semi ((l.take (i + 1)).map (timeS d s b m n))) := hid (by rw [HST.out, HFIRST.out h0, hx0.out]; rfl)
        have a2 := add_ba x tx (by omega)
        clear h0
        go_upto_region 7 with fail
        refine wp_region_held_drew (S := TK w d s b m tb (tf + i * 4) k0 y0 u0 l0) (by kernel_rfl) HTK.out.drew (fun hHeld => ?_)
        (refine wpAnyH_take (i := 0) (oi := _) (v := ?_) rfl (by kernel_rfl) (by kernel_rfl) (by kernel_rfl) (fun _ _ _ h => h) (Or.inl ⟨by rfl, ?_⟩) (by assumption) ?_; rotate_left; (intro wS hSw; obtain ⟨⟨⟨x0, x1, x2, x3, _⟩, _⟩, t0, t1, t2, t3, _⟩ := hSw; (try simp only [List.getElem_toArray, List.getElem_cons_zero]); go_simp; (try with_reducible rfl)))
        try simp only [List.getElem_toArray, List.getElem_cons_zero, Act.put, List.setIfInBounds_toArray, List.set_cons_zero, List.set_cons_succ]
        (refine wpAnyH_take (i := 1) (oi := _) (v := ?_) rfl (by kernel_rfl) (by kernel_rfl) (by kernel_rfl) (fun _ _ _ h => h) (Or.inl ⟨by rfl, ?_⟩) (by assumption) ?_; rotate_left; (intro wS hSw; obtain ⟨⟨⟨x0, x1, x2, x3, _⟩, _⟩, t0, t1, t2, t3, _⟩ := hSw; (try simp only [List.getElem_toArray, List.getElem_cons_succ, List.getElem_cons_zero]); go_simp; (try with_reducible rfl)))
        try simp only [List.getElem_toArray, List.getElem_cons_succ, List.getElem_cons_zero, Act.put, List.setIfInBounds_toArray, List.set_cons_zero, List.set_cons_succ]
        (refine wpAnyH_take (i := 2) (oi := _) (v := ?_) rfl (by kernel_rfl) (by kernel_rfl) (by kernel_rfl) (fun _ _ _ h => h) (Or.inl ⟨by rfl, ?_⟩) (by assumption) ?_; rotate_left; (intro wS hSw; obtain ⟨⟨⟨x0, x1, x2, x3, _⟩, _⟩, t0, t1, t2, t3, _⟩ := hSw; (try simp only [List.getElem_toArray, List.getElem_cons_succ, List.getElem_cons_zero]); go_simp; (try with_reducible rfl)))
        try simp only [List.getElem_toArray, List.getElem_cons_succ, List.getElem_cons_zero, Act.put, List.setIfInBounds_toArray, List.set_cons_zero, List.set_cons_succ]
        (refine wpAnyH_take (i := 3) (oi := _) (v := ?_) rfl (by kernel_rfl) (by kernel_rfl) (by kernel_rfl) (fun _ _ _ h => h) (Or.inl ⟨by rfl, ?_⟩) (by assumption) ?_; rotate_left; (intro wS hSw; obtain ⟨⟨⟨x0, x1, x2, x3, _⟩, _⟩, t0, t1, t2, t3, _⟩ := hSw; (try simp only [List.getElem_toArray, List.getElem_cons_succ, List.getElem_cons_zero]); go_simp; (try with_reducible rfl)))
        try simp only [List.getElem_toArray, List.getElem_cons_succ, List.getElem_cons_zero, Act.put, List.setIfInBounds_toArray, List.set_cons_zero, List.set_cons_succ]
        (refine wpAnyH_take (i := 4) (oi := _) (v := ?_) rfl (by kernel_rfl) (by kernel_rfl) (by kernel_rfl) (fun _ _ _ h => h) (Or.inl ⟨by rfl, ?_⟩) (by assumption) ?_; rotate_left; (intro wS hSw; obtain ⟨⟨⟨x0, x1, x2, x3, _⟩, _⟩, t0, t1, t2, t3, _⟩ := hSw; (try simp only [List.getElem_toArray, List.getElem_cons_succ, List.getElem_cons_zero]); go_simp; (try with_reducible rfl)))
        try simp only [List.getElem_toArray, List.getElem_cons_succ, List.getElem_cons_zero, Act.put, List.setIfInBounds_toArray, List.set_cons_zero, List.set_cons_succ]
        (refine wpAnyH_take (i := 5) (oi := _) (v := ?_) rfl (by kernel_rfl) (by kernel_rfl) (by kernel_rfl) (fun _ _ _ h => h) (Or.inl ⟨by rfl, ?_⟩) (by assumption) ?_; rotate_left; (intro wS hSw; obtain ⟨⟨⟨x0, x1, x2, x3, _⟩, _⟩, t0, t1, t2, t3, _⟩ := hSw; (try simp only [List.getElem_toArray, List.getElem_cons_succ, List.getElem_cons_zero]); go_simp; (try with_reducible rfl)))
        try simp only [List.getElem_toArray, List.getElem_cons_succ, List.getElem_cons_zero, Act.put, List.setIfInBounds_toArray, List.set_cons_zero, List.set_cons_succ]
        (refine wpAnyH_ready (rs := [6]) (by kernel_rfl) (by simp) ?_; refine AllReadyH.cons (o := _) rfl (fun K hK => ?_) AllReadyH.nil; (try simp only [List.getElem_toArray, List.getElem_cons_succ, List.getElem_cons_zero]); go_simp; go_at_call 57; refine (CF.out _ hHeld.g.b).mono ?_; rintro e w2 ⟨rfl, hb2⟩; have hHeld := hHeld.next hb2; clear hb2; go_wp2_with fail; refine hK.out _ _ hHeld (fun hHeld => ?_); clear hK K)
        try simp only [List.getElem_toArray, List.getElem_cons_succ, List.getElem_cons_zero, Act.put, List.setIfInBounds_toArray, List.set_cons_zero, List.set_cons_succ]
        (refine wpAnyH_take (i := 7) (oi := _) (v := ?_) rfl (by kernel_rfl) (by kernel_rfl) (by kernel_rfl) (fun _ _ _ h => h) (Or.inl ⟨by rfl, ?_⟩) (by assumption) ?_; rotate_left; (intro wS hSw; obtain ⟨⟨⟨x0, x1, x2, x3, _⟩, _⟩, t0, t1, t2, t3, _⟩ := hSw; (try simp only [List.getElem_toArray, List.getElem_cons_succ, List.getElem_cons_zero]); go_simp; (try with_reducible rfl)))
        try simp only [List.getElem_toArray, List.getElem_cons_succ, List.getElem_cons_zero, Act.put, List.setIfInBounds_toArray, List.set_cons_zero, List.set_cons_succ]
        (refine wpAnyH_take (i := 8) (oi := _) (v := ?_) rfl (by kernel_rfl) (by kernel_rfl) (by kernel_rfl) (fun _ _ _ h => h) (Or.inl ⟨by rfl, ?_⟩) (by assumption) ?_; rotate_left; (intro wS hSw; obtain ⟨⟨⟨x0, x1, x2, x3, _⟩, _⟩, t0, t1, t2, t3, _⟩ := hSw; (try simp only [List.getElem_toArray, List.getElem_cons_succ, List.getElem_cons_zero]); go_simp; (try with_reducible rfl)))
        try simp only [List.getElem_toArray, List.getElem_cons_succ, List.getElem_cons_zero, Act.put, List.setIfInBounds_toArray, List.set_cons_zero, List.set_cons_succ]
        (refine wpAnyH_take (i := 9) (oi := _) (v := ?_) rfl (by kernel_rfl) (by kernel_rfl) (by kernel_rfl) (fun _ _ _ h => h) (Or.inl ⟨by rfl, ?_⟩) (by assumption) ?_; rotate_left; (intro wS hSw; obtain ⟨⟨⟨x0, x1, x2, x3, _⟩, _⟩, t0, t1, t2, t3, _⟩ := hSw; (try simp only [List.getElem_toArray, List.getElem_cons_succ, List.getElem_cons_zero]); go_simp; (try with_reducible rfl)))
        try simp only [List.getElem_toArray, List.getElem_cons_succ, List.getElem_cons_zero, Act.put, List.setIfInBounds_toArray, List.set_cons_zero, List.set_cons_succ]
        (refine wpAnyH_take (i := 10) (oi := _) (v := ?_) rfl (by kernel_rfl) (by kernel_rfl) (by kernel_rfl) (fun _ _ _ h => h) (Or.inl ⟨by rfl, ?_⟩) (by assumption) ?_; rotate_left; (intro wS hSw; obtain ⟨⟨⟨x0, x1, x2, x3, _⟩, _⟩, t0, t1, t2, t3, _⟩ := hSw; (try simp only [List.getElem_toArray, List.getElem_cons_succ, List.getElem_cons_zero]); go_simp; (try with_reducible rfl)))
        try simp only [List.getElem_toArray, List.getElem_cons_succ, List.getElem_cons_zero, Act.put, List.setIfInBounds_toArray, List.set_cons_zero, List.set_cons_succ]
        (refine wpAnyH_take (i := 11) (oi := _) (v := ?_) rfl (by kernel_rfl) (by kernel_rfl) (by kernel_rfl) (fun _ _ _ h => h) (Or.inl ⟨by rfl, ?_⟩) (by assumption) ?_; rotate_left; (intro wS hSw; obtain ⟨⟨⟨x0, x1, x2, x3, _⟩, _⟩, t0, t1, t2, t3, _⟩ := hSw; (try simp only [List.getElem_toArray, List.getElem_cons_succ, List.getElem_cons_zero]); go_simp; (try with_reducible rfl)))
        try simp only [List.getElem_toArray, List.getElem_cons_succ, List.getElem_cons_zero, Act.put, List.setIfInBounds_toArray, List.set_cons_zero, List.set_cons_succ]
        refine wpAnyH_done (by kernel_rfl) ?_ _
        have HK2 := hid hHeld.g
        clear CF
        go_wp2
        go_roundw
        case rel => exact ⟨i + 1, x ++ tx, by go_num, by omega, rfl, hnew, HK2⟩
        case measure => simp [RowKit.intOf]; omega
      · have h0z : (0 : Int) < (i : Int) := by omega
        have h0d : decide ((0 : Int) < (i : Int)) = true := decide_eq_true h0z
        have hnew : Hid ((x ++ [59]) ++ tx = S3.semi ((l.take (i + 1)).map (timeS d s b m n))) := hid (by rw [HST.out, semi_snoc _ _ (HNIL.out h0), ← hx.out]; simp)
        have a1 := add_ba x [59] (by simp; omega)
        rw [show ba [59] = (⟨#[59]⟩ : ByteArray) from rfl] at a1
        have a2 := add_ba (x ++ [59]) tx (by simp; omega)
        clear h0
        go_upto_region 7 with fail
        refine wp_region_held_drew (S := TK w d s b m tb (tf + i * 4) k0 y0 u0 l0) (by kernel_rfl) HTK.out.drew (fun hHeld => ?_)
        (refine wpAnyH_take (i := 0) (oi := _) (v := ?_) rfl (by kernel_rfl) (by kernel_rfl) (by kernel_rfl) (fun _ _ _ h => h) (Or.inl ⟨by rfl, ?_⟩) (by assumption) ?_; rotate_left; (intro wS hSw; obtain ⟨⟨⟨x0, x1, x2, x3, _⟩, _⟩, t0, t1, t2, t3, _⟩ := hSw; (try simp only [List.getElem_toArray, List.getElem_cons_zero]); go_simp; (try with_reducible rfl)))
        try simp only [List.getElem_toArray, List.getElem_cons_zero, Act.put, List.setIfInBounds_toArray, List.set_cons_zero, List.set_cons_succ]
        (refine wpAnyH_take (i := 1) (oi := _) (v := ?_) rfl (by kernel_rfl) (by kernel_rfl) (by kernel_rfl) (fun _ _ _ h => h) (Or.inl ⟨by rfl, ?_⟩) (by assumption) ?_; rotate_left; (intro wS hSw; obtain ⟨⟨⟨x0, x1, x2, x3, _⟩, _⟩, t0, t1, t2, t3, _⟩ := hSw; (try simp only [List.getElem_toArray, List.getElem_cons_succ, List.getElem_cons_zero]); go_simp; (try with_reducible rfl)))
        try simp only [List.getElem_toArray, List.getElem_cons_succ, List.getElem_cons_zero, Act.put, List.setIfInBounds_toArray, List.set_cons_zero, List.set_cons_succ]
        (refine wpAnyH_take (i := 2) (oi := _) (v := ?_) rfl (by kernel_rfl) (by kernel_rfl) (by kernel_rfl) (fun _ _ _ h => h) (Or.inl ⟨by rfl, ?_⟩) (by assumption) ?_; rotate_left; (intro wS hSw; obtain ⟨⟨⟨x0, x1, x2, x3, _⟩, _⟩, t0, t1, t2, t3, _⟩ := hSw; (try simp only [List.getElem_toArray, List.getElem_cons_succ, List.getElem_cons_zero]); go_simp; (try with_reducible rfl)))
        try simp only [List.getElem_toArray, List.getElem_cons_succ, List.getElem_cons_zero, Act.put, List.setIfInBounds_toArray, List.set_cons_zero, List.set_cons_succ]
        (refine wpAnyH_take (i := 3) (oi := _) (v := ?_) rfl (by kernel_rfl) (by kernel_rfl) (by kernel_rfl) (fun _ _ _ h => h) (Or.inl ⟨by rfl, ?_⟩) (by assumption) ?_; rotate_left; (intro wS hSw; obtain ⟨⟨⟨x0, x1, x2, x3, _⟩, _⟩, t0, t1, t2, t3, _⟩ := hSw; (try simp only [List.getElem_toArray, List.getElem_cons_succ, List.getElem_cons_zero]); go_simp; (try with_reducible rfl)))
        try simp only [List.getElem_toArray, List.getElem_cons_succ, List.getElem_cons_zero, Act.put, List.setIfInBounds_toArray, List.set_cons_zero, List.set_cons_succ]
        (refine wpAnyH_take (i := 4) (oi := _) (v := ?_) rfl (by kernel_rfl) (by kernel_rfl) (by kernel_rfl) (fun _ _ _ h => h) (Or.inl ⟨by rfl, ?_⟩) (by assumption) ?_; rotate_left; (intro wS hSw; obtain ⟨⟨⟨x0, x1, x2, x3, _⟩, _⟩, t0, t1, t2, t3, _⟩ := hSw; (try simp only [List.getElem_toArray, List.getElem_cons_succ, List.getElem_cons_zero]); go_simp; (try with_reducible rfl)))
        try simp only [List.getElem_toArray, List.getElem_cons_succ, List.getElem_cons_zero, Act.put, List.setIfInBounds_toArray, List.set_cons_zero, List.set_cons_succ]
        (refine wpAnyH_take (i := 5) (oi := _) (v := ?_) rfl (by kernel_rfl) (by kernel_rfl) (by kernel_rfl) (fun _ _ _ h => h) (Or.inl ⟨by rfl, ?_⟩) (by assumption) ?_; rotate_left; (intro wS hSw; obtain ⟨⟨⟨x0, x1, x2, x3, _⟩, _⟩, t0, t1, t2, t3, _⟩ := hSw; (try simp only [List.getElem_toArray, List.getElem_cons_succ, List.getElem_cons_zero]); go_simp; (try with_reducible rfl)))
        try simp only [List.getElem_toArray, List.getElem_cons_succ, List.getElem_cons_zero, Act.put, List.setIfInBounds_toArray, List.set_cons_zero, List.set_cons_succ]
        (refine wpAnyH_ready (rs := [6]) (by kernel_rfl) (by simp) ?_; refine AllReadyH.cons (o := _) rfl (fun K hK => ?_) AllReadyH.nil; (try simp only [List.getElem_toArray, List.getElem_cons_succ, List.getElem_cons_zero]); go_simp; go_at_call 57; refine (CF.out _ hHeld.g.b).mono ?_; rintro e w2 ⟨rfl, hb2⟩; have hHeld := hHeld.next hb2; clear hb2; go_wp2_with fail; refine hK.out _ _ hHeld (fun hHeld => ?_); clear hK K)
        try simp only [List.getElem_toArray, List.getElem_cons_succ, List.getElem_cons_zero, Act.put, List.setIfInBounds_toArray, List.set_cons_zero, List.set_cons_succ]
        (refine wpAnyH_take (i := 7) (oi := _) (v := ?_) rfl (by kernel_rfl) (by kernel_rfl) (by kernel_rfl) (fun _ _ _ h => h) (Or.inl ⟨by rfl, ?_⟩) (by assumption) ?_; rotate_left; (intro wS hSw; obtain ⟨⟨⟨x0, x1, x2, x3, _⟩, _⟩, t0, t1, t2, t3, _⟩ := hSw; (try simp only [List.getElem_toArray, List.getElem_cons_succ, List.getElem_cons_zero]); go_simp; (try with_reducible rfl)))
        try simp only [List.getElem_toArray, List.getElem_cons_succ, List.getElem_cons_zero, Act.put, List.setIfInBounds_toArray, List.set_cons_zero, List.set_cons_succ]
        (refine wpAnyH_take (i := 8) (oi := _) (v := ?_) rfl (by kernel_rfl) (by kernel_rfl) (by kernel_rfl) (fun _ _ _ h => h) (Or.inl ⟨by rfl, ?_⟩) (by assumption) ?_; rotate_left; (intro wS hSw; obtain ⟨⟨⟨x0, x1, x2, x3, _⟩, _⟩, t0, t1, t2, t3, _⟩ := hSw; (try simp only [List.getElem_toArray, List.getElem_cons_succ, List.getElem_cons_zero]); go_simp; (try with_reducible rfl)))
        try simp only [List.getElem_toArray, List.getElem_cons_succ, List.getElem_cons_zero, Act.put, List.setIfInBounds_toArray, List.set_cons_zero, List.set_cons_succ]
        (refine wpAnyH_take (i := 9) (oi := _) (v := ?_) rfl (by kernel_rfl) (by kernel_rfl) (by kernel_rfl) (fun _ _ _ h => h) (Or.inl ⟨by rfl, ?_⟩) (by assumption) ?_; rotate_left; (intro wS hSw; obtain ⟨⟨⟨x0, x1, x2, x3, _⟩, _⟩, t0, t1, t2, t3, _⟩ := hSw; (try simp only [List.getElem_toArray, List.getElem_cons_succ, List.getElem_cons_zero]); go_simp; (try with_reducible rfl)))
        try simp only [List.getElem_toArray, List.getElem_cons_succ, List.getElem_cons_zero, Act.put, List.setIfInBounds_toArray, List.set_cons_zero, List.set_cons_succ]
        (refine wpAnyH_take (i := 10) (oi := _) (v := ?_) rfl (by kernel_rfl) (by kernel_rfl) (by kernel_rfl) (fun _ _ _ h => h) (Or.inl ⟨by rfl, ?_⟩) (by assumption) ?_; rotate_left; (intro wS hSw; obtain ⟨⟨⟨x0, x1, x2, x3, _⟩, _⟩, t0, t1, t2, t3, _⟩ := hSw; (try simp only [List.getElem_toArray, List.getElem_cons_succ, List.getElem_cons_zero]); go_simp; (try with_reducible rfl)))
        try simp only [List.getElem_toArray, List.getElem_cons_succ, List.getElem_cons_zero, Act.put, List.setIfInBounds_toArray, List.set_cons_zero, List.set_cons_succ]
        (refine wpAnyH_take (i := 11) (oi := _) (v := ?_) rfl (by kernel_rfl) (by kernel_rfl) (by kernel_rfl) (fun _ _ _ h => h) (Or.inl ⟨by rfl, ?_⟩) (by assumption) ?_; rotate_left; (intro wS hSw; obtain ⟨⟨⟨x0, x1, x2, x3, _⟩, _⟩, t0, t1, t2, t3, _⟩ := hSw; (try simp only [List.getElem_toArray, List.getElem_cons_succ, List.getElem_cons_zero]); go_simp; (try with_reducible rfl)))
        try simp only [List.getElem_toArray, List.getElem_cons_succ, List.getElem_cons_zero, Act.put, List.setIfInBounds_toArray, List.set_cons_zero, List.set_cons_succ]
        refine wpAnyH_done (by kernel_rfl) ?_ _
        have HK2 := hid hHeld.g
        clear CF
        go_wp2
        go_roundw
        case rel => exact ⟨i + 1, (x ++ [59]) ++ tx, by go_num, by omega, by simp, hnew, HK2⟩
        case measure => simp [RowKit.intOf]; omega
    · have hltz : ¬ (i : Int) < (l.length : Int) := by omega
      have hpe : Hid (x = S3.semi (l.map (timeS d s b m n))) := hid (by rw [hx.out, List.take_of_length_le (by omega)])
      go_wp2
      go_ret
      exact ⟨by rw [hpe.out]; rfl, hK.out.b⟩
end Go.Proofs.YtnpfmoalgphkcaaGreatDoor

set_option linter.unusedVariables false
namespace Go.Proofs.YtnpfmoalgphkcaaGreatDoor.S3
open Go Go.Proofs Go.RowKit Go.Lib

def one48 (d : Nat) : UInt8 := UInt8.ofNat (48 + d)
/-- Between two rounds of the first loop. -/
def WideAt (n u : Nat) (s : Str) : Prop := (s = [] ∧ u = n) ∨ (s ≠ [] ∧ ((u = 0 ∧ s = decDigits n) ∨ (0 < u ∧ decDigits u ++ s = decDigits n)))
theorem WideAt.step {n u : Nat} {s : Str} (h : WideAt n u s) (hg : 0 < u ∨ s = []) : WideAt n (u / 10) (one48 (u % 10) :: s) := by
  have hd : u % 10 < 10 := Nat.mod_lt _ (by omega)
  refine .inr ⟨by simp, ?_⟩
  by_cases hm : u / 10 = 0
  · have hu : u < 10 := by omega
    have hmod : u % 10 = u := Nat.mod_eq_of_lt hu
    refine .inl ⟨hm, ?_⟩
    rw [hmod]
    rcases h with ⟨rfl, rfl⟩ | ⟨hs, ⟨h0, _⟩ | ⟨h0, h1⟩⟩
    · rw [dec_small hu]; rfl
    · rcases hg with hg | hg
      · omega
      · exact absurd hg hs
    · rw [← h1, dec_small hu]; rfl
  · have hu : u = 10 * (u / 10) + u % 10 := by omega
    have hst : decDigits u = decDigits (u / 10) ++ [one48 (u % 10)] := by
      have := dec_step (u / 10) (u % 10) (by omega) hd
      rw [← hu] at this
      exact this
    refine .inr ⟨by omega, ?_⟩
    rcases h with ⟨rfl, rfl⟩ | ⟨hs, ⟨h0, _⟩ | ⟨h0, h1⟩⟩
    · rw [hst]
    · omega
    · rw [← h1, hst]; simp
theorem WideAt.done {n u : Nat} {s : Str} (h : WideAt n u s) (hg : ¬ (0 < u ∨ s = [])) : s = decDigits n := by
  rcases h with ⟨rfl, rfl⟩ | ⟨hs, ⟨h0, h1⟩ | ⟨h0, _⟩⟩
  · exact absurd (.inr rfl) hg
  · exact h1
  · exact absurd (.inl h0) hg

theorem WideAt.len {n u : Nat} {s : Str} (h : WideAt n u s) (hn : n < 2147483648) : s.length ≤ 10 := by
  have hl := dec_len n 10 (by omega) (by omega)
  rcases h with ⟨rfl, rfl⟩ | ⟨hs, ⟨h0, h1⟩ | ⟨h0, h1⟩⟩
  · simp
  · rw [h1]; exact hl
  · have := congrArg List.length h1
    rw [List.length_append] at this
    omega
end Go.Proofs.YtnpfmoalgphkcaaGreatDoor.S3

set_option linter.unusedVariables false
namespace Go.Proofs.YtnpfmoalgphkcaaGreatDoor.S3
open Go Go.Proofs Go.RowKit Go.Lib

theorem semi_snoc : ∀ (ps : List Str) (p : Str), semi (ps ++ [p]) = if ps = [] then p else semi ps ++ 59 :: p
  | [], p => rfl
  | [q], p => rfl
  | q :: x :: r, p => by
    have ih := semi_snoc (x :: r) p
    rw [if_neg (by simp)] at ih ⊢
    show q ++ 59 :: semi (x :: (r ++ [p])) = (q ++ 59 :: semi (x :: r)) ++ 59 :: p
    rw [show x :: (r ++ [p]) = x :: r ++ [p] from rfl, ih]
    simp
end Go.Proofs.YtnpfmoalgphkcaaGreatDoor.S3

set_option linter.unusedVariables false
namespace Go.Proofs.YtnpfmoalgphkcaaGreatDoor
open Go Go.Proofs Go.RowKit Go.Lib

theorem K1.grown {w0 w w' : World} {d s b m : Int} {row : Option Nat} (h : K1 w0 d s b m w) (hg : w.grownBy w' row) (hr : ∀ k, row = some k → w0.heap.size + 1 ≤ k) : K1 w0 d s b m w' := by
  have hx := h.x
  have kc : ∀ o : Nat, w'.cell? ⟨w0.heap.size, o, none⟩ = w.cell? ⟨w0.heap.size, o, none⟩ := fun o => World.cell?_of_block (w := w) (hg.block _ hx.lt (fun e => by have e2 : w0.heap.size + 1 ≤ w0.heap.size := hr _ e.symm; omega))
  exact ⟨⟨(kc 0).trans hx.c0, (kc 1).trans hx.c1, (kc 2).trans hx.c2, (kc 3).trans hx.c3, Nat.lt_of_lt_of_le hx.lt hg.size⟩, h.b.trans (((Below.refl _ w).grown hg h.b.size (fun k e => by have := hr k e; omega)))⟩
end Go.Proofs.YtnpfmoalgphkcaaGreatDoor

