/-
  The text of a list of times by the specification: WriteTimes. Conditions: the times lie in memory, at most 24; the variables hold what their text lays. The .. Conditions: as stated.
-/
import Derived.Test.YtnpfmoalgphkcaaGreatDoorMM01
import Derived.Test.YtnpfmoalgphkcaaGreatDoorMM02
import Derived.Test.YtnpfmoalgphkcaaGreatDoorMM03
import Derived.Test.YtnpfmoalgphkcaaGreatDoorMM04
import Derived.Test.YtnpfmoalgphkcaaGreatDoorMM05
import Derived.Test.YtnpfmoalgphkcaaGreatDoorMM06
import Derived.Test.YtnpfmoalgphkcaaGreatDoorMM07
import Derived.Test.YtnpfmoalgphkcaaGreatDoorMM08
import Derived.Test.YtnpfmoalgphkcaaGreatDoorMM09
import Derived.Test.YtnpfmoalgphkcaaGreatDoorMM10
import Derived.Test.YtnpfmoalgphkcaaGreatDoorMM11
import Derived.Test.YtnpfmoalgphkcaaGreatDoorMM12
import Derived.Test.YtnpfmoalgphkcaaGreatDoorMM13
import Derived.Test.YtnpfmoalgphkcaaGreatDoorMM14
import Derived.Test.YtnpfmoalgphkcaaGreatDoorMM15
import Derived.Test.YtnpfmoalgphkcaaGreatDoorMM16
import Derived.Test.YtnpfmoalgphkcaaGreatDoorMM20
import Derived.Test.YtnpfmoalgphkcaaGreatDoorMM21
import Derived.Test.YtnpfmoalgphkcaaGreatDoorProg
import Derived.WalkKit
import Derived.WalkSpells
import Derived.WalkLawsBesides
import Derived.Lib.Hide
import Derived.Deep.QuietTactic
import Derived.BigQuiet
import Derived.Laws.Rows
import Derived.OwnWalk
import Derived.Lib.BufferWrite
import Derived.Lib.UnsafeStr
import Derived.Laws.IdiomStrings
import Derived.Laws.BytesArg
import Derived.Laws.BytesString
import Derived.Laws.OwnMore
import Derived.Lib.IndexLaws
import Derived.Lib.ItoaNum
import Derived.Lib.Atoi
import Derived.Lib.Bytealg
import Derived.Laws.BitsAllLaws
import Derived.Laws.BitsLemmas
import Derived.Deep.MidRow
import Derived.Shelf.Strings.Builder1
import Derived.Shelf.Strings.Builder2
import Derived.Shelf.Strings.OnBuilder
import Derived.Shelf.Strings.BuilderF
import Derived.Shelf.Strings.BuilderK
import Derived.Shelf.Strings.Builder2Cap
import Derived.Shelf.Strconv.Atoi
import Derived.Shelf.Strconv.Itoa0
import Derived.Shelf.Strconv.Itoa1
import Derived.Shelf.LaysM
import Derived.Shelf.Strconv.Itoa2
import Derived.Shelf.Strconv.Itoa3
import Derived.Shelf.Strconv.AtoiErrFast
import Derived.Shelf.Strconv.ParseIntEmpty
import Derived.Shelf.Strconv.AtoiFail
import Derived.Shelf.Strconv.Clone
import Derived.Shelf.Strconv.SyntaxError
import Derived.Shelf.LaysC
import Derived.Shelf.Strconv.ToError
import Derived.Shelf.Strconv.AtoiErr
import Derived.Shelf.Strings.Search1
import Derived.Shelf.Strings.Search2
import Derived.Shelf.Strings.Search3
import Derived.Shelf.Strings.Cut
import Derived.Shelf.Strings.Shaped
import Derived.Shelf.Strings.Prefix
import Derived.Shelf.Unicode.DecodeSlow
import Derived.Shelf.Strings.BuilderCap
import Derived.Lib.AtoiErrMem
import Derived.Handy
import Derived.RangeFuncNested
import Derived.RangeFuncBound
import Derived.RangeFuncCalls
import Derived.RangeFuncLeaves
import Derived.Shelf.Abstract
import Derived.Shelf.RegionOpen
import Derived.OwnWalkIn
import Derived.Lib.SlTrimSet
import Derived.Shelf.Strings.SlTrimAscii
import Derived.Laws.ResultCell
import Derived.RegionTactic
import Derived.Lib.Repeat
import Derived.Deep.RegionHeld3
import Derived.Lib.SlicesS
import Derived.TacticsInMore
import Derived.LoopNIn
import Derived.LoopIn
import Derived.Deep.DeepCutAuto
import Derived.Lib.Join
import Derived.Laws.Concat
import Derived.Deep.RegionLaw
import Derived.StillTailTactics
import Derived.RangeFuncBox
import Derived.Lib.AppendIntMem
import Derived.Shelf.SlGeneric
import Derived.Shelf.SlicesQ.IndexFunc
import Derived.Sort.Walk0
import Derived.Maps.OwnSet
import Derived.Maps.Range
import Derived.Maps.AppendAt
import Derived.Deep.CutBlock
import Derived.Deep.AppendLies
import Derived.Sort.EncStr
set_option linter.unusedVariables false
namespace Go.Proofs.YtnpfmoalgphkcaaGreatDoor
open Go Go.Proofs Go.RowKit Go.Lib
theorem semi_snoc : ∀ (l : List Str) (x : Str), l ≠ [] → S3.semi (l ++ [x]) = S3.semi l ++ 59 :: x
  | [], x, h => absurd rfl h
  | [p], x, _ => rfl
  | p :: q :: r, x, _ => by
    have ih := semi_snoc (q :: r) x (by simp)
    show p ++ 59 :: S3.semi (q :: r ++ [x]) = (p ++ 59 :: S3.semi (q :: r)) ++ 59 :: x
    rw [ih]
    simp
structure TKY (w0 : World) (d s b m : Int) (tb o : Nat) (k y u l : Int) (w : World) : Prop where
  g : K1 w0 d s b m w
  c0 : w.cell? ⟨tb, o, none⟩ = some (.int .i64 k)
  c1 : w.cell? ⟨tb, o + 1, none⟩ = some (.int .i64 y)
  c2 : w.cell? ⟨tb, o + 2, none⟩ = some (.int .i64 u)
  c3 : w.cell? ⟨tb, o + 3, none⟩ = some (.int .i64 l)
  z : tb < w0.heap.size
theorem TKY.next {w0 w w' : World} {d s b m : Int} {tb o : Nat} {k y u l : Int} (h : TKY w0 d s b m tb o k y u l w) (q : Below w.heap.size w w') : TKY w0 d s b m tb o k y u l w' := by
  have kc : ∀ p : Nat, w'.cell? ⟨tb, p, none⟩ = w.cell? ⟨tb, p, none⟩ := fun p => q.cell (p := ⟨tb, p, none⟩) (Nat.lt_of_lt_of_le h.z h.g.b.size)
  exact ⟨h.g.next q, (kc _).trans h.c0, (kc _).trans h.c1, (kc _).trans h.c2, (kc _).trans h.c3, h.z⟩
theorem TKY.drew {w0 w : World} {d s b m : Int} {tb o : Nat} {k y u l : Int} (h : TKY w0 d s b m tb o k y u l w) : TKY w0 d s b m tb o k y u l w.drew := h.next (Below.refl _ w).drew
set_option maxHeartbeats 8000000 in
set_option maxRecDepth 100000 in
theorem rwriteTimes_any (d s b m n : Int) (A : Option Addr) (l : List TimeD) (c B : Nat) (w : World) (hB : B ≤ w.heap.size) (h : TimesIn w (fun k => k < B) A l) (hl : l.length ≤ 24) (hE : REnv7 w) :
    Calls Tryz.prog 32 #[.slice A l.length c, .agg #[.int .i64 d, .int .i64 s, .int .i64 b, .int .i64 m], .int .i64 n] w (Says (.string (ba (timesS d s b m n l))) w) := by
  unfold Says timesS
  have hk := K1.first w d s b m 24
  have HK := hid hk
  have HH := hid h
  have HE := hid (fun (w' : World) (hb : Below w.heap.size w w') => hE.below hb (Nat.le_refl _))
  clear hk h hE
  go_enter Tryz.func32, Tryz.ntmps32
  go_wp2
  go_loopw [7, 8, 9, 10] (fun v iv _ _ wr => ∃ (i : Nat) (x : Str), iv = .int .i64 (i : Int) ∧ i ≤ l.length ∧ v = .string (ba x) ∧ Hid (x = S3.semi ((l.take i).map (timeS d s b m n))) ∧ Hid (K1 w d s b m wr)) (fun _ iv _ _ _ => l.length - (RowKit.intOf iv).toNat)
  case atStart => exact ⟨0, [], rfl, Nat.zero_le _, rfl, hid rfl, hid HK.out⟩
  case round =>
    obtain ⟨i, x, rfl, hi, rfl, hx, hK⟩ := hrel
    by_cases hlt : i < l.length
    · have hltz : (i : Int) < (l.length : Int) := by omega
      have di : decide (l.length ≤ i) = false := decide_eq_false (by omega)
      have hHH := (HH.out.mono (fun k hk => Nat.lt_of_lt_of_le hk hB)).below hK.out.b
      have hle := hHH.le hlt
      obtain ⟨tb, tf, rfl, htb, t0, t1, t2, t3⟩ := hHH.at_ hlt
      have hst : (l.take (i + 1)).map (timeS d s b m n) = (l.take i).map (timeS d s b m n) ++ [timeS d s b m n l[i]] := by rw [List.take_succ_eq_append_getElem hlt, List.map_append]; rfl
      have hxl : x.length ≤ 10000 := by
        rw [hx.out]
        refine Nat.le_trans (semi_len300 _ (fun p hp => ?_)) (by rw [List.length_map, List.length_take]; omega)
        obtain ⟨t, _, rfl⟩ := List.mem_map.1 hp
        exact timeS_len _ _ _ _ _ t
      have htl := timeS_len d s b m n l[i]
      have hnil : ∀ h : i ≠ 0, (l.take i).map (timeS d s b m n) ≠ [] := fun h e => by
        have := congrArg List.length e
        rw [List.length_map, List.length_take, List.length_nil] at this
        omega
      have hfirst : i = 0 → (l.take i).map (timeS d s b m n) = [] := fun h => by subst h; rfl
      obtain ⟨⟨k0, y0, u0, l0⟩, ht⟩ : ∃ t, l[i] = t := ⟨_, rfl⟩
      rw [ht] at t0 t1 t2 t3 hle hst htl
      dsimp only at t0 t1 t2 t3 hle
      have htk : TKY w d s b m tb (tf + i * 4) k0 y0 u0 l0 wr := ⟨hK.out, t0, t1, t2, t3, htb⟩
      have HTK := hid htk
      have cF := hid (fun w' hb => rtformat_any d s b m n k0 y0 u0 l0 w' (HE.out w' hb).z (HE.out w' hb).wd (HE.out w' hb).d)
      have hts : (textT d s b m n k0 y0 u0 l0).1 = timeS d s b m n (k0, y0, u0, l0) := rfl
      obtain ⟨⟨tx, te⟩, hR⟩ : ∃ R, textT d s b m n k0 y0 u0 l0 = R := ⟨_, rfl⟩
      have cF' := cF.out
      unfold FormOut at cF'
      rw [hR] at cF' hts
      dsimp only at cF' hts
      rw [← hts] at hst htl
      have CF := hid cF'
      have HST := hid hst
      have HNIL := hid hnil
      have HFIRST := hid hfirst
      clear cF cF' hst hR hts ht hHH hle hnil hfirst HE htk t0 t1 t2 t3
      by_cases h0 : i = 0
      · have h0z : ¬ (0 : Int) < (i : Int) := by omega
        have h0d : decide ((0 : Int) < (i : Int)) = false := decide_eq_false h0z
        have hx0 : Hid (x = []) := hid (by rw [hx.out, HFIRST.out h0]; rfl)
        have hnew : Hid (x ++ tx = S3.semi ((l.take (i + 1)).map (timeS d s b m n))) := hid (by rw [HST.out, HFIRST.out h0, hx0.out]; rfl)
        have a2 := add_ba x tx (by omega)
        clear h0
        go_upto_region 7 with fail
        refine wp_region_held_drew (S := TKY w d s b m tb (tf + i * 4) k0 y0 u0 l0) (by kernel_rfl) HTK.out.drew (fun hHeld => ?_)
        (refine wpAnyH_take (i := 0) (oi := _) (v := ?_) rfl (by kernel_rfl) (by kernel_rfl) (by kernel_rfl) (fun _ _ _ h => h) (Or.inl ⟨by rfl, ?_⟩) (by assumption) ?_; rotate_left; (intro wS hSw; obtain ⟨⟨⟨x0, x1, x2, x3, _⟩, _⟩, t0, t1, t2, t3, _⟩ := hSw; (try simp only [List.getElem_toArray, List.getElem_cons_zero]); go_simp; (try with_reducible rfl)))
        try simp only [List.getElem_toArray, List.getElem_cons_zero, Act.put, List.setIfInBounds_toArray, List.set_cons_zero, List.set_cons_succ]
        (refine wpAnyH_take (i := 1) (oi := _) (v := ?_) rfl (by kernel_rfl) (by kernel_rfl) (by kernel_rfl) (fun _ _ _ h => h) (Or.inl ⟨by rfl, ?_⟩) (by assumption) ?_; rotate_left; (intro wS hSw; obtain ⟨⟨⟨x0, x1, x2, x3, _⟩, _⟩, t0, t1, t2, t3, _⟩ := hSw; (try simp only [List.getElem_toArray, List.getElem_cons_succ, List.getElem_cons_zero]); go_simp; (try with_reducible rfl)))
        try simp only [List.getElem_toArray, List.getElem_cons_succ, List.getElem_cons_zero, Act.put, List.setIfInBounds_toArray, List.set_cons_zero, List.set_cons_succ]
        (refine wpAnyH_take (i := 2) (oi := _) (v := ?_) rfl (by kernel_rfl) (by kernel_rfl) (by kernel_rfl) (fun _ _ _ h => h) (Or.inl ⟨by rfl, ?_⟩) (by assumption) ?_; rotate_left; (intro wS hSw; obtain ⟨⟨⟨x0, x1, x2, x3, _⟩, _⟩, t0, t1, t2, t3, _⟩ := hSw; (try simp only [List.getElem_toArray, List.getElem_cons_succ, List.getElem_cons_zero]); go_simp; (try with_reducible rfl)))
        try simp only [List.getElem_toArray, List.getElem_cons_succ, List.getElem_cons_zero, Act.put, List.setIfInBounds_toArray, List.set_cons_zero, List.set_cons_succ]
        (refine wpAnyH_take (i := 3) (oi := _) (v := ?_) rfl (by kernel_rfl) (by kernel_rfl) (by kernel_rfl) (fun _ _ _ h => h) (Or.inl ⟨by rfl, ?_⟩) (by assumption) ?_; rotate_left; (intro wS hSw; obtain ⟨⟨⟨x0, x1, x2, x3, _⟩, _⟩, t0, t1, t2, t3, _⟩ := hSw; (try simp only [List.getElem_toArray, List.getElem_cons_succ, List.getElem_cons_zero]); go_simp; (try with_reducible rfl)))
        try simp only [List.getElem_toArray, List.getElem_cons_succ, List.getElem_cons_zero, Act.put, List.setIfInBounds_toArray, List.set_cons_zero, List.set_cons_succ]
        (refine wpAnyH_take (i := 4) (oi := _) (v := ?_) rfl (by kernel_rfl) (by kernel_rfl) (by kernel_rfl) (fun _ _ _ h => h) (Or.inl ⟨by rfl, ?_⟩) (by assumption) ?_; rotate_left; (intro wS hSw; obtain ⟨⟨⟨x0, x1, x2, x3, _⟩, _⟩, t0, t1, t2, t3, _⟩ := hSw; (try simp only [List.getElem_toArray, List.getElem_cons_succ, List.getElem_cons_zero]); go_simp; (try with_reducible rfl)))
        try simp only [List.getElem_toArray, List.getElem_cons_succ, List.getElem_cons_zero, Act.put, List.setIfInBounds_toArray, List.set_cons_zero, List.set_cons_succ]
        (refine wpAnyH_take (i := 5) (oi := _) (v := ?_) rfl (by kernel_rfl) (by kernel_rfl) (by kernel_rfl) (fun _ _ _ h => h) (Or.inl ⟨by rfl, ?_⟩) (by assumption) ?_; rotate_left; (intro wS hSw; obtain ⟨⟨⟨x0, x1, x2, x3, _⟩, _⟩, t0, t1, t2, t3, _⟩ := hSw; (try simp only [List.getElem_toArray, List.getElem_cons_succ, List.getElem_cons_zero]); go_simp; (try with_reducible rfl)))
        try simp only [List.getElem_toArray, List.getElem_cons_succ, List.getElem_cons_zero, Act.put, List.setIfInBounds_toArray, List.set_cons_zero, List.set_cons_succ]
        (refine wpAnyH_ready (rs := [6]) (by kernel_rfl) (by simp) ?_; refine AllReadyH.cons (o := _) rfl (fun K hK => ?_) AllReadyH.nil; (try simp only [List.getElem_toArray, List.getElem_cons_succ, List.getElem_cons_zero]); go_simp; go_at_call 57; refine (CF.out _ hHeld.g.b).mono ?_; rintro e w2 ⟨rfl, hb2⟩; have hHeld := hHeld.next hb2; clear hb2; go_wp2_with fail; refine hK.out _ _ hHeld (fun hHeld => ?_); clear hK K)
        try simp only [List.getElem_toArray, List.getElem_cons_succ, List.getElem_cons_zero, Act.put, List.setIfInBounds_toArray, List.set_cons_zero, List.set_cons_succ]
        (refine wpAnyH_take (i := 7) (oi := _) (v := ?_) rfl (by kernel_rfl) (by kernel_rfl) (by kernel_rfl) (fun _ _ _ h => h) (Or.inl ⟨by rfl, ?_⟩) (by assumption) ?_; rotate_left; (intro wS hSw; obtain ⟨⟨⟨x0, x1, x2, x3, _⟩, _⟩, t0, t1, t2, t3, _⟩ := hSw; (try simp only [List.getElem_toArray, List.getElem_cons_succ, List.getElem_cons_zero]); go_simp; (try with_reducible rfl)))
        try simp only [List.getElem_toArray, List.getElem_cons_succ, List.getElem_cons_zero, Act.put, List.setIfInBounds_toArray, List.set_cons_zero, List.set_cons_succ]
        (refine wpAnyH_take (i := 8) (oi := _) (v := ?_) rfl (by kernel_rfl) (by kernel_rfl) (by kernel_rfl) (fun _ _ _ h => h) (Or.inl ⟨by rfl, ?_⟩) (by assumption) ?_; rotate_left; (intro wS hSw; obtain ⟨⟨⟨x0, x1, x2, x3, _⟩, _⟩, t0, t1, t2, t3, _⟩ := hSw; (try simp only [List.getElem_toArray, List.getElem_cons_succ, List.getElem_cons_zero]); go_simp; (try with_reducible rfl)))
        try simp only [List.getElem_toArray, List.getElem_cons_succ, List.getElem_cons_zero, Act.put, List.setIfInBounds_toArray, List.set_cons_zero, List.set_cons_succ]
        (refine wpAnyH_take (i := 9) (oi := _) (v := ?_) rfl (by kernel_rfl) (by kernel_rfl) (by kernel_rfl) (fun _ _ _ h => h) (Or.inl ⟨by rfl, ?_⟩) (by assumption) ?_; rotate_left; (intro wS hSw; obtain ⟨⟨⟨x0, x1, x2, x3, _⟩, _⟩, t0, t1, t2, t3, _⟩ := hSw; (try simp only [List.getElem_toArray, List.getElem_cons_succ, List.getElem_cons_zero]); go_simp; (try with_reducible rfl)))
        try simp only [List.getElem_toArray, List.getElem_cons_succ, List.getElem_cons_zero, Act.put, List.setIfInBounds_toArray, List.set_cons_zero, List.set_cons_succ]
        (refine wpAnyH_take (i := 10) (oi := _) (v := ?_) rfl (by kernel_rfl) (by kernel_rfl) (by kernel_rfl) (fun _ _ _ h => h) (Or.inl ⟨by rfl, ?_⟩) (by assumption) ?_; rotate_left; (intro wS hSw; obtain ⟨⟨⟨x0, x1, x2, x3, _⟩, _⟩, t0, t1, t2, t3, _⟩ := hSw; (try simp only [List.getElem_toArray, List.getElem_cons_succ, List.getElem_cons_zero]); go_simp; (try with_reducible rfl)))
        try simp only [List.getElem_toArray, List.getElem_cons_succ, List.getElem_cons_zero, Act.put, List.setIfInBounds_toArray, List.set_cons_zero, List.set_cons_succ]
        (refine wpAnyH_take (i := 11) (oi := _) (v := ?_) rfl (by kernel_rfl) (by kernel_rfl) (by kernel_rfl) (fun _ _ _ h => h) (Or.inl ⟨by rfl, ?_⟩) (by assumption) ?_; rotate_left; (intro wS hSw; obtain ⟨⟨⟨x0, x1, x2, x3, _⟩, _⟩, t0, t1, t2, t3, _⟩ := hSw; (try simp only [List.getElem_toArray, List.getElem_cons_succ, List.getElem_cons_zero]); go_simp; (try with_reducible rfl)))
        try simp only [List.getElem_toArray, List.getElem_cons_succ, List.getElem_cons_zero, Act.put, List.setIfInBounds_toArray, List.set_cons_zero, List.set_cons_succ]
        refine wpAnyH_done (by kernel_rfl) ?_ _
        have HK2 := hid hHeld.g
        clear CF
        go_wp2
        go_roundw
        case rel => exact ⟨i + 1, x ++ tx, by go_num, by omega, rfl, hnew, HK2⟩
        case measure => simp [RowKit.intOf]; omega
      · have h0z : (0 : Int) < (i : Int) := by omega
        have h0d : decide ((0 : Int) < (i : Int)) = true := decide_eq_true h0z
        have hnew : Hid ((x ++ [59]) ++ tx = S3.semi ((l.take (i + 1)).map (timeS d s b m n))) := hid (by rw [HST.out, semi_snoc _ _ (HNIL.out h0), ← hx.out]; simp)
        have a1 := add_ba x [59] (by simp; omega)
        rw [show ba [59] = (⟨#[59]⟩ : ByteArray) from rfl] at a1
        have a2 := add_ba (x ++ [59]) tx (by simp; omega)
        clear h0
        go_upto_region 7 with fail
        refine wp_region_held_drew (S := TKY w d s b m tb (tf + i * 4) k0 y0 u0 l0) (by kernel_rfl) HTK.out.drew (fun hHeld => ?_)
        (refine wpAnyH_take (i := 0) (oi := _) (v := ?_) rfl (by kernel_rfl) (by kernel_rfl) (by kernel_rfl) (fun _ _ _ h => h) (Or.inl ⟨by rfl, ?_⟩) (by assumption) ?_; rotate_left; (intro wS hSw; obtain ⟨⟨⟨x0, x1, x2, x3, _⟩, _⟩, t0, t1, t2, t3, _⟩ := hSw; (try simp only [List.getElem_toArray, List.getElem_cons_zero]); go_simp; (try with_reducible rfl)))
        try simp only [List.getElem_toArray, List.getElem_cons_zero, Act.put, List.setIfInBounds_toArray, List.set_cons_zero, List.set_cons_succ]
        (refine wpAnyH_take (i := 1) (oi := _) (v := ?_) rfl (by kernel_rfl) (by kernel_rfl) (by kernel_rfl) (fun _ _ _ h => h) (Or.inl ⟨by rfl, ?_⟩) (by assumption) ?_; rotate_left; (intro wS hSw; obtain ⟨⟨⟨x0, x1, x2, x3, _⟩, _⟩, t0, t1, t2, t3, _⟩ := hSw; (try simp only [List.getElem_toArray, List.getElem_cons_succ, List.getElem_cons_zero]); go_simp; (try with_reducible rfl)))
        try simp only [List.getElem_toArray, List.getElem_cons_succ, List.getElem_cons_zero, Act.put, List.setIfInBounds_toArray, List.set_cons_zero, List.set_cons_succ]
        (refine wpAnyH_take (i := 2) (oi := _) (v := ?_) rfl (by kernel_rfl) (by kernel_rfl) (by kernel_rfl) (fun _ _ _ h => h) (Or.inl ⟨by rfl, ?_⟩) (by assumption) ?_; rotate_left; (intro wS hSw; obtain ⟨⟨⟨x0, x1, x2, x3, _⟩, _⟩, t0, t1, t2, t3, _⟩ := hSw; (try simp only [List.getElem_toArray, List.getElem_cons_succ, List.getElem_cons_zero]); go_simp; (try with_reducible rfl)))
        try simp only [List.getElem_toArray, List.getElem_cons_succ, List.getElem_cons_zero, Act.put, List.setIfInBounds_toArray, List.set_cons_zero, List.set_cons_succ]
        (refine wpAnyH_take (i := 3) (oi := _) (v := ?_) rfl (by kernel_rfl) (by kernel_rfl) (by kernel_rfl) (fun _ _ _ h => h) (Or.inl ⟨by rfl, ?_⟩) (by assumption) ?_; rotate_left; (intro wS hSw; obtain ⟨⟨⟨x0, x1, x2, x3, _⟩, _⟩, t0, t1, t2, t3, _⟩ := hSw; (try simp only [List.getElem_toArray, List.getElem_cons_succ, List.getElem_cons_zero]); go_simp; (try with_reducible rfl)))
        try simp only [List.getElem_toArray, List.getElem_cons_succ, List.getElem_cons_zero, Act.put, List.setIfInBounds_toArray, List.set_cons_zero, List.set_cons_succ]
        (refine wpAnyH_take (i := 4) (oi := _) (v := ?_) rfl (by kernel_rfl) (by kernel_rfl) (by kernel_rfl) (fun _ _ _ h => h) (Or.inl ⟨by rfl, ?_⟩) (by assumption) ?_; rotate_left; (intro wS hSw; obtain ⟨⟨⟨x0, x1, x2, x3, _⟩, _⟩, t0, t1, t2, t3, _⟩ := hSw; (try simp only [List.getElem_toArray, List.getElem_cons_succ, List.getElem_cons_zero]); go_simp; (try with_reducible rfl)))
        try simp only [List.getElem_toArray, List.getElem_cons_succ, List.getElem_cons_zero, Act.put, List.setIfInBounds_toArray, List.set_cons_zero, List.set_cons_succ]
        (refine wpAnyH_take (i := 5) (oi := _) (v := ?_) rfl (by kernel_rfl) (by kernel_rfl) (by kernel_rfl) (fun _ _ _ h => h) (Or.inl ⟨by rfl, ?_⟩) (by assumption) ?_; rotate_left; (intro wS hSw; obtain ⟨⟨⟨x0, x1, x2, x3, _⟩, _⟩, t0, t1, t2, t3, _⟩ := hSw; (try simp only [List.getElem_toArray, List.getElem_cons_succ, List.getElem_cons_zero]); go_simp; (try with_reducible rfl)))
        try simp only [List.getElem_toArray, List.getElem_cons_succ, List.getElem_cons_zero, Act.put, List.setIfInBounds_toArray, List.set_cons_zero, List.set_cons_succ]
        (refine wpAnyH_ready (rs := [6]) (by kernel_rfl) (by simp) ?_; refine AllReadyH.cons (o := _) rfl (fun K hK => ?_) AllReadyH.nil; (try simp only [List.getElem_toArray, List.getElem_cons_succ, List.getElem_cons_zero]); go_simp; go_at_call 57; refine (CF.out _ hHeld.g.b).mono ?_; rintro e w2 ⟨rfl, hb2⟩; have hHeld := hHeld.next hb2; clear hb2; go_wp2_with fail; refine hK.out _ _ hHeld (fun hHeld => ?_); clear hK K)
        try simp only [List.getElem_toArray, List.getElem_cons_succ, List.getElem_cons_zero, Act.put, List.setIfInBounds_toArray, List.set_cons_zero, List.set_cons_succ]
        (refine wpAnyH_take (i := 7) (oi := _) (v := ?_) rfl (by kernel_rfl) (by kernel_rfl) (by kernel_rfl) (fun _ _ _ h => h) (Or.inl ⟨by rfl, ?_⟩) (by assumption) ?_; rotate_left; (intro wS hSw; obtain ⟨⟨⟨x0, x1, x2, x3, _⟩, _⟩, t0, t1, t2, t3, _⟩ := hSw; (try simp only [List.getElem_toArray, List.getElem_cons_succ, List.getElem_cons_zero]); go_simp; (try with_reducible rfl)))
        try simp only [List.getElem_toArray, List.getElem_cons_succ, List.getElem_cons_zero, Act.put, List.setIfInBounds_toArray, List.set_cons_zero, List.set_cons_succ]
        (refine wpAnyH_take (i := 8) (oi := _) (v := ?_) rfl (by kernel_rfl) (by kernel_rfl) (by kernel_rfl) (fun _ _ _ h => h) (Or.inl ⟨by rfl, ?_⟩) (by assumption) ?_; rotate_left; (intro wS hSw; obtain ⟨⟨⟨x0, x1, x2, x3, _⟩, _⟩, t0, t1, t2, t3, _⟩ := hSw; (try simp only [List.getElem_toArray, List.getElem_cons_succ, List.getElem_cons_zero]); go_simp; (try with_reducible rfl)))
        try simp only [List.getElem_toArray, List.getElem_cons_succ, List.getElem_cons_zero, Act.put, List.setIfInBounds_toArray, List.set_cons_zero, List.set_cons_succ]
        (refine wpAnyH_take (i := 9) (oi := _) (v := ?_) rfl (by kernel_rfl) (by kernel_rfl) (by kernel_rfl) (fun _ _ _ h => h) (Or.inl ⟨by rfl, ?_⟩) (by assumption) ?_; rotate_left; (intro wS hSw; obtain ⟨⟨⟨x0, x1, x2, x3, _⟩, _⟩, t0, t1, t2, t3, _⟩ := hSw; (try simp only [List.getElem_toArray, List.getElem_cons_succ, List.getElem_cons_zero]); go_simp; (try with_reducible rfl)))
        try simp only [List.getElem_toArray, List.getElem_cons_succ, List.getElem_cons_zero, Act.put, List.setIfInBounds_toArray, List.set_cons_zero, List.set_cons_succ]
        (refine wpAnyH_take (i := 10) (oi := _) (v := ?_) rfl (by kernel_rfl) (by kernel_rfl) (by kernel_rfl) (fun _ _ _ h => h) (Or.inl ⟨by rfl, ?_⟩) (by assumption) ?_; rotate_left; (intro wS hSw; obtain ⟨⟨⟨x0, x1, x2, x3, _⟩, _⟩, t0, t1, t2, t3, _⟩ := hSw; (try simp only [List.getElem_toArray, List.getElem_cons_succ, List.getElem_cons_zero]); go_simp; (try with_reducible rfl)))
        try simp only [List.getElem_toArray, List.getElem_cons_succ, List.getElem_cons_zero, Act.put, List.setIfInBounds_toArray, List.set_cons_zero, List.set_cons_succ]
        (refine wpAnyH_take (i := 11) (oi := _) (v := ?_) rfl (by kernel_rfl) (by kernel_rfl) (by kernel_rfl) (fun _ _ _ h => h) (Or.inl ⟨by rfl, ?_⟩) (by assumption) ?_; rotate_left; (intro wS hSw; obtain ⟨⟨⟨x0, x1, x2, x3, _⟩, _⟩, t0, t1, t2, t3, _⟩ := hSw; (try simp only [List.getElem_toArray, List.getElem_cons_succ, List.getElem_cons_zero]); go_simp; (try with_reducible rfl)))
        try simp only [List.getElem_toArray, List.getElem_cons_succ, List.getElem_cons_zero, Act.put, List.setIfInBounds_toArray, List.set_cons_zero, List.set_cons_succ]
        refine wpAnyH_done (by kernel_rfl) ?_ _
        have HK2 := hid hHeld.g
        clear CF
        go_wp2
        go_roundw
        case rel => exact ⟨i + 1, (x ++ [59]) ++ tx, by go_num, by omega, by simp, hnew, HK2⟩
        case measure => simp [RowKit.intOf]; omega
    · have hltz : ¬ (i : Int) < (l.length : Int) := by omega
      have hpe : Hid (x = S3.semi (l.map (timeS d s b m n))) := hid (by rw [hx.out, List.take_of_length_le (by omega)])
      go_wp2
      go_ret
      exact ⟨by rw [hpe.out]; rfl, hK.out.b⟩
end Go.Proofs.YtnpfmoalgphkcaaGreatDoor
namespace Go.Proofs.YtnpfmoalgphkcaaGreatDoor.S3
open Go Go.Proofs Go.RowKit Go.Lib
theorem lst_get (s : ByteArray) (j : Nat) (h : j < s.size) : (lst s)[j]? = some (s[j]'h) := by
  have : j < s.data.size := h
  show s.data.toList[j]? = _
  rw [Array.getElem?_toList, Array.getElem?_eq_getElem this]
  rfl
def one48 (d : Nat) : UInt8 := UInt8.ofNat (48 + d)
def WideAt (n u : Nat) (s : Str) : Prop := (s = [] ∧ u = n) ∨ (s ≠ [] ∧ ((u = 0 ∧ s = decDigits n) ∨ (0 < u ∧ decDigits u ++ s = decDigits n)))
theorem WideAt.step {n u : Nat} {s : Str} (h : WideAt n u s) (hg : 0 < u ∨ s = []) : WideAt n (u / 10) (one48 (u % 10) :: s) := by
  have hd : u % 10 < 10 := Nat.mod_lt _ (by omega)
  refine .inr ⟨by simp, ?_⟩
  by_cases hm : u / 10 = 0
  · have hu : u < 10 := by omega
    have hmod : u % 10 = u := Nat.mod_eq_of_lt hu
    refine .inl ⟨hm, ?_⟩
    rw [hmod]
    rcases h with ⟨rfl, rfl⟩ | ⟨hs, ⟨h0, _⟩ | ⟨h0, h1⟩⟩
    · rw [dec_small hu]; rfl
    · rcases hg with hg | hg
      · omega
      · exact absurd hg hs
    · rw [← h1, dec_small hu]; rfl
  · have hu : u = 10 * (u / 10) + u % 10 := by omega
    have hst : decDigits u = decDigits (u / 10) ++ [one48 (u % 10)] := by
      have := dec_step (u / 10) (u % 10) (by omega) hd
      rw [← hu] at this
      exact this
    refine .inr ⟨by omega, ?_⟩
    rcases h with ⟨rfl, rfl⟩ | ⟨hs, ⟨h0, _⟩ | ⟨h0, h1⟩⟩
    · rw [hst]
    · omega
    · rw [← h1, hst]; simp
theorem WideAt.done {n u : Nat} {s : Str} (h : WideAt n u s) (hg : ¬ (0 < u ∨ s = [])) : s = decDigits n := by
  rcases h with ⟨rfl, rfl⟩ | ⟨hs, ⟨h0, h1⟩ | ⟨h0, _⟩⟩
  · exact absurd (.inr rfl) hg
  · exact h1
  · exact absurd (.inl h0) hg
theorem WideAt.len {n u : Nat} {s : Str} (h : WideAt n u s) (hn : n < 2147483648) : s.length ≤ 10 := by
  have hl := dec_len n 10 (by omega) (by omega)
  rcases h with ⟨rfl, rfl⟩ | ⟨hs, ⟨h0, h1⟩ | ⟨h0, h1⟩⟩
  · simp
  · rw [h1]; exact hl
  · have := congrArg List.length h1
    rw [List.length_append] at this
    omega
theorem semi_snoc : ∀ (ps : List Str) (p : Str), semi (ps ++ [p]) = if ps = [] then p else semi ps ++ 59 :: p
  | [], p => rfl
  | [q], p => rfl
  | q :: x :: r, p => by
    have ih := semi_snoc (x :: r) p
    rw [if_neg (by simp)] at ih ⊢
    show q ++ 59 :: semi (x :: (r ++ [p])) = (q ++ 59 :: semi (x :: r)) ++ 59 :: p
    rw [show x :: (r ++ [p]) = x :: r ++ [p] from rfl, ih]
    simp
end Go.Proofs.YtnpfmoalgphkcaaGreatDoor.S3
namespace Go.Proofs.YtnpfmoalgphkcaaGreatDoor
open Go Go.Proofs Go.RowKit Go.Lib
theorem K1.grown {w0 w w' : World} {d s b m : Int} {row : Option Nat} (h : K1 w0 d s b m w) (hg : w.grownBy w' row) (hr : ∀ k, row = some k → w0.heap.size + 1 ≤ k) : K1 w0 d s b m w' := by
  have hx := h.x
  have kc : ∀ o : Nat, w'.cell? ⟨w0.heap.size, o, none⟩ = w.cell? ⟨w0.heap.size, o, none⟩ := fun o => World.cell?_of_block (w := w) (hg.block _ hx.lt (fun e => by have e2 : w0.heap.size + 1 ≤ w0.heap.size := hr _ e.symm; omega))
  exact ⟨⟨(kc 0).trans hx.c0, (kc 1).trans hx.c1, (kc 2).trans hx.c2, (kc 3).trans hx.c3, Nat.lt_of_lt_of_le hx.lt hg.size⟩, h.b.trans (((Below.refl _ w).grown hg h.b.size (fun k e => by have := hr k e; omega)))⟩
structure WL (w0 : World) (d s b m : Int) (fb o : Nat) (v0 v1 : Value) (w : World) : Prop where
  g : K1 w0 d s b m w
  c0 : w.cell? ⟨fb, o, none⟩ = some v0
  c1 : w.cell? ⟨fb, o + 1, none⟩ = some v1
  z : fb < w0.heap.size
theorem WL.next {w0 w w' : World} {d s b m : Int} {fb o : Nat} {v0 v1 : Value} (h : WL w0 d s b m fb o v0 v1 w) (q : Below w.heap.size w w') : WL w0 d s b m fb o v0 v1 w' := by
  have e := q.block fb (Nat.lt_of_lt_of_le h.z h.g.b.size)
  exact ⟨h.g.next q, (World.cell?_of_block (w := w) e).trans h.c0, (World.cell?_of_block (w := w) e).trans h.c1, h.z⟩
theorem WL.drew {w0 w : World} {d s b m : Int} {fb o : Nat} {v0 v1 : Value} (h : WL w0 d s b m fb o v0 v1 w) : WL w0 d s b m fb o v0 v1 w.drew := h.next (Below.refl _ w).drew
theorem WL.grown {w0 w w' : World} {d s b m : Int} {fb o : Nat} {v0 v1 : Value} {row : Option Nat} (h : WL w0 d s b m fb o v0 v1 w) (hg : w.grownBy w' row) (hr : ∀ k, row = some k → w0.heap.size + 1 ≤ k) : WL w0 d s b m fb o v0 v1 w' := by
  have e := hg.block fb (Nat.lt_of_lt_of_le h.z h.g.b.size) (fun e => by have := hr _ e.symm; have := h.z; omega)
  exact ⟨h.g.grown hg hr, (World.cell?_of_block (w := w) e).trans h.c0, (World.cell?_of_block (w := w) e).trans h.c1, h.z⟩
set_option maxHeartbeats 16000000 in
set_option maxRecDepth 100000 in
theorem rlwrite_any (d s b m n : Int) (A : Option Addr) (l : List LectD) (c : Nat) (w : World) (h : LectsIn w (fun k => k < w.heap.size) A l) (hE : REnv7 w) :
    Calls Tryz.prog 9 #[.slice A l.length c, .agg #[.int .i64 d, .int .i64 s, .int .i64 b, .int .i64 m], .int .i64 n] w (WriteOut (writeL d s b m n l) w) := by
  obtain ⟨iS, hiS, hzS, hsS, hbS⟩ := info_parts infoStrs7
  unfold WriteOut writeL
  have hk := K1.first w d s b m 24
  have HK := hid hk
  have HH := hid (fun (w' : World) (hb : Below w.heap.size w w') => h.below hb)
  have HE := hid (fun (w' : World) (hb : Below w.heap.size w w') => hE.below hb (Nat.le_refl _))
  have cV : Hid (∀ w', Below w.heap.size w w' → Calls Tryz.prog 14 #[.slice A l.length c, .agg #[.int .i64 d, .int .i64 s, .int .i64 b, .int .i64 m], .int .i64 n] w' (Says (.int .i64 (validL d s b m n l)) w')) :=
    hid (fun w' hb => rlvalid_any d s b m n A l c w' ((h.below hb).mono (fun k hk => Nat.lt_of_lt_of_le hk hb.size)))
  have cV' := cV.out
  unfold Says at cV'
  obtain ⟨R, hR⟩ : ∃ R, validL d s b m n l = R := ⟨_, rfl⟩
  rw [hR] at cV' ⊢
  have CV := hid cV'
  clear hk h hE cV cV'
  by_cases hR0 : R = 0
  · subst hR0
    obtain ⟨h16, hok⟩ := validL_ok hR
    have HOK := hid hok
    rw [if_neg (by simp)]
    clear hR hok
    go_enter Tryz.func9, Tryz.ntmps9
    go_wp2_with fail
    refine (CV.out _ HK.out.b).mono ?_
    rintro e w1 ⟨rfl, hb⟩
    have HK1 := hid (HK.out.next hb)
    clear hb HK CV
    go_wp2
    go_loopw [9, 10] (fun v iv wr => ∃ (i : Nat) (L : List RowA), iv = .int .i64 (i : Int) ∧ i ≤ l.length ∧ Hid (L.map (·.1) = (l.take i).map (rowL d s b m n)) ∧ Hid (RowsRow wr (w.heap.size + 1) v L) ∧ Hid (K1 w d s b m wr)) (fun _ iv _ => l.length - (RowKit.intOf iv).toNat)
    case atStart => exact ⟨0, [], rfl, Nat.zero_le _, hid rfl, hid (RowsRow.nil _ _), hid HK1.out⟩
    case round =>
      obtain ⟨i, L, rfl, hi, hL, hrow, hKK⟩ := hrel
      obtain ⟨Ar, cr, hvr, _⟩ := hrow.out.rowsIn
      subst hvr
      have hLl : L.length = i := by
        have := congrArg List.length hL.out
        rw [List.length_map, List.length_map, List.length_take] at this
        omega
      have HLL := hid hLl
      clear hLl
      by_cases hlt : i < l.length
      · have hltz : (i : Int) < (l.length : Int) := by omega
        have di : decide (l.length ≤ i) = false := decide_eq_false (by omega)
        obtain ⟨fb, fo, ⟨A2, c2⟩, rfl, hfb, hri, hcell0, hcell1⟩ := (HH.out _ hKK.out.b).at_ hlt
        have hn2 := lectM_len (HOK.out _ (List.getElem_mem hlt))
        have hst : (l.take (i + 1)).map (rowL d s b m n) = L.map (·.1) ++ [rowL d s b m n l[i]] := by rw [hL.out, List.take_succ_eq_append_getElem hlt, List.map_append]; rfl
        obtain ⟨⟨code, ts⟩, hr⟩ : ∃ r, l[i] = r := ⟨_, rfl⟩
        rw [hr] at hcell0 hcell1 hst hri hn2
        obtain ⟨ht, ht1, ht2⟩ := hri
        dsimp only at hcell0 hcell1 ht ht1 ht2 hn2
        change (l.take (i + 1)).map (rowL d s b m n) = L.map (·.1) ++ [[code, timesS d s b m n ts]] at hst
        have hk0 : WL w d s b m fb (fo + i * 2) (.string (ba code)) (.slice A2 ts.length c2) wr := ⟨hKK.out, hcell0, hcell1, hfb⟩
        have cT : ∀ (w' : World), Below w.heap.size wr w' → Calls Tryz.prog 32 #[.slice A2 ts.length c2, .agg #[.int .i64 d, .int .i64 s, .int .i64 b, .int .i64 m], .int .i64 n] w' (Says (.string (ba (timesS d s b m n ts))) w') := fun w' hb => rwriteTimes_any d s b m n A2 ts c2 w.heap.size w' (Nat.le_trans hKK.out.b.size hb.size) (ht.below hb) hn2 (HE.out w' (hKK.out.b.trans hb))
        unfold Says at cT
        obtain ⟨X1, hX1⟩ : ∃ X, ba code = X := ⟨_, rfl⟩
        obtain ⟨X5, hX5⟩ : ∃ X, ba (timesS d s b m n ts) = X := ⟨_, rfl⟩
        obtain ⟨RW, hRW⟩ : ∃ r, [code, timesS d s b m n ts] = r := ⟨_, rfl⟩
        have hrw5 : RW.length = 2 := by rw [← hRW]; rfl
        have hrwv : S3.strVals RW = [.string X1, .string X5] := by rw [← hRW, ← hX1, ← hX5]; rfl
        rw [hRW] at hst
        rw [hX1] at hk0
        rw [hX5] at cT
        obtain ⟨T1, hT1⟩ : ∃ F, ts.length = F := ⟨_, rfl⟩
        rw [hT1] at hk0 cT
        have HK0 := hid hk0
        have CT := hid cT
        have HST := hid hst
        have HR5 := hid hrw5
        have HRV := hid hrwv
        clear hr hRW hX1 hX5 hT1 hst hk0 hcell0 hcell1 ht ht1 ht2 hn2 cT hrw5 hrwv
        go_upto_region 8 with fail
        refine wp_region_held_drew (S := WL w d s b m fb (fo + i * 2) (.string X1) (.slice A2 T1 c2)) (by kernel_rfl) HK0.out.drew (fun hHeld => ?_)
        (refine wpAnyH_take (i := 0) (oi := _) (v := ?_) rfl (by kernel_rfl) (by kernel_rfl) (by kernel_rfl) (fun _ _ _ h => h) (Or.inl ⟨by rfl, ?_⟩) (by assumption) ?_; rotate_left; (intro wS hSw; obtain ⟨⟨⟨x0, x1, x2, x3, _⟩, _⟩, y0, y1, _⟩ := hSw; (try simp only [List.getElem_toArray, List.getElem_cons_zero]); go_simp; (try with_reducible rfl)))
        try simp only [List.getElem_toArray, List.getElem_cons_zero, Act.put, List.setIfInBounds_toArray, List.set_cons_zero, List.set_cons_succ]
        (refine wpAnyH_take (i := 1) (oi := _) (v := ?_) rfl (by kernel_rfl) (by kernel_rfl) (by kernel_rfl) (fun _ _ _ h => h) (Or.inl ⟨by rfl, ?_⟩) (by assumption) ?_; rotate_left; (intro wS hSw; obtain ⟨⟨⟨x0, x1, x2, x3, _⟩, _⟩, y0, y1, _⟩ := hSw; (try simp only [List.getElem_toArray, List.getElem_cons_succ, List.getElem_cons_zero]); go_simp; (try with_reducible rfl)))
        try simp only [List.getElem_toArray, List.getElem_cons_succ, List.getElem_cons_zero, Act.put, List.setIfInBounds_toArray, List.set_cons_zero, List.set_cons_succ]
        (refine wpAnyH_take (i := 2) (oi := _) (v := ?_) rfl (by kernel_rfl) (by kernel_rfl) (by kernel_rfl) (fun _ _ _ h => h) (Or.inl ⟨by rfl, ?_⟩) (by assumption) ?_; rotate_left; (intro wS hSw; obtain ⟨⟨⟨x0, x1, x2, x3, _⟩, _⟩, y0, y1, _⟩ := hSw; (try simp only [List.getElem_toArray, List.getElem_cons_succ, List.getElem_cons_zero]); go_simp; (try with_reducible rfl)))
        try simp only [List.getElem_toArray, List.getElem_cons_succ, List.getElem_cons_zero, Act.put, List.setIfInBounds_toArray, List.set_cons_zero, List.set_cons_succ]
        (refine wpAnyH_take (i := 3) (oi := _) (v := ?_) rfl (by kernel_rfl) (by kernel_rfl) (by kernel_rfl) (fun _ _ _ h => h) (Or.inl ⟨by rfl, ?_⟩) (by assumption) ?_; rotate_left; (intro wS hSw; obtain ⟨⟨⟨x0, x1, x2, x3, _⟩, _⟩, y0, y1, _⟩ := hSw; (try simp only [List.getElem_toArray, List.getElem_cons_succ, List.getElem_cons_zero]); go_simp; (try with_reducible rfl)))
        try simp only [List.getElem_toArray, List.getElem_cons_succ, List.getElem_cons_zero, Act.put, List.setIfInBounds_toArray, List.set_cons_zero, List.set_cons_succ]
        (refine wpAnyH_take (i := 4) (oi := _) (v := ?_) rfl (by kernel_rfl) (by kernel_rfl) (by kernel_rfl) (fun _ _ _ h => h) (Or.inl ⟨by rfl, ?_⟩) (by assumption) ?_; rotate_left; (intro wS hSw; obtain ⟨⟨⟨x0, x1, x2, x3, _⟩, _⟩, y0, y1, _⟩ := hSw; (try simp only [List.getElem_toArray, List.getElem_cons_succ, List.getElem_cons_zero]); go_simp; (try with_reducible rfl)))
        try simp only [List.getElem_toArray, List.getElem_cons_succ, List.getElem_cons_zero, Act.put, List.setIfInBounds_toArray, List.set_cons_zero, List.set_cons_succ]
        (refine wpAnyH_take (i := 5) (oi := _) (v := ?_) rfl (by kernel_rfl) (by kernel_rfl) (by kernel_rfl) (fun _ _ _ h => h) (Or.inl ⟨by rfl, ?_⟩) (by assumption) ?_; rotate_left; (intro wS hSw; obtain ⟨⟨⟨x0, x1, x2, x3, _⟩, _⟩, y0, y1, _⟩ := hSw; (try simp only [List.getElem_toArray, List.getElem_cons_succ, List.getElem_cons_zero]); go_simp; (try with_reducible rfl)))
        try simp only [List.getElem_toArray, List.getElem_cons_succ, List.getElem_cons_zero, Act.put, List.setIfInBounds_toArray, List.set_cons_zero, List.set_cons_succ]
        (refine wpAnyH_take (i := 6) (oi := _) (v := ?_) rfl (by kernel_rfl) (by kernel_rfl) (by kernel_rfl) (fun _ _ _ h => h) (Or.inl ⟨by rfl, ?_⟩) (by assumption) ?_; rotate_left; (intro wS hSw; obtain ⟨⟨⟨x0, x1, x2, x3, _⟩, _⟩, y0, y1, _⟩ := hSw; (try simp only [List.getElem_toArray, List.getElem_cons_succ, List.getElem_cons_zero]); go_simp; (try with_reducible rfl)))
        try simp only [List.getElem_toArray, List.getElem_cons_succ, List.getElem_cons_zero, Act.put, List.setIfInBounds_toArray, List.set_cons_zero, List.set_cons_succ]
        (refine wpAnyH_take (i := 7) (oi := _) (v := ?_) rfl (by kernel_rfl) (by kernel_rfl) (by kernel_rfl) (fun _ _ _ h => h) (Or.inl ⟨by rfl, ?_⟩) (by assumption) ?_; rotate_left; (intro wS hSw; obtain ⟨⟨⟨x0, x1, x2, x3, _⟩, _⟩, y0, y1, _⟩ := hSw; (try simp only [List.getElem_toArray, List.getElem_cons_succ, List.getElem_cons_zero]); go_simp; (try with_reducible rfl)))
        try simp only [List.getElem_toArray, List.getElem_cons_succ, List.getElem_cons_zero, Act.put, List.setIfInBounds_toArray, List.set_cons_zero, List.set_cons_succ]
        (refine wpAnyH_take (i := 8) (oi := _) (v := ?_) rfl (by kernel_rfl) (by kernel_rfl) (by kernel_rfl) (fun _ _ _ h => h) (Or.inl ⟨by rfl, ?_⟩) (by assumption) ?_; rotate_left; (intro wS hSw; obtain ⟨⟨⟨x0, x1, x2, x3, _⟩, _⟩, y0, y1, _⟩ := hSw; (try simp only [List.getElem_toArray, List.getElem_cons_succ, List.getElem_cons_zero]); go_simp; (try with_reducible rfl)))
        try simp only [List.getElem_toArray, List.getElem_cons_succ, List.getElem_cons_zero, Act.put, List.setIfInBounds_toArray, List.set_cons_zero, List.set_cons_succ]
        (refine wpAnyH_take (i := 9) (oi := _) (v := ?_) rfl (by kernel_rfl) (by kernel_rfl) (by kernel_rfl) (fun _ _ _ h => h) (Or.inl ⟨by rfl, ?_⟩) (by assumption) ?_; rotate_left; (intro wS hSw; obtain ⟨⟨⟨x0, x1, x2, x3, _⟩, _⟩, y0, y1, _⟩ := hSw; (try simp only [List.getElem_toArray, List.getElem_cons_succ, List.getElem_cons_zero]); go_simp; (try with_reducible rfl)))
        try simp only [List.getElem_toArray, List.getElem_cons_succ, List.getElem_cons_zero, Act.put, List.setIfInBounds_toArray, List.set_cons_zero, List.set_cons_succ]
        (refine wpAnyH_take (i := 10) (oi := _) (v := ?_) rfl (by kernel_rfl) (by kernel_rfl) (by kernel_rfl) (fun _ _ _ h => h) (Or.inl ⟨by rfl, ?_⟩) (by assumption) ?_; rotate_left; (intro wS hSw; obtain ⟨⟨⟨x0, x1, x2, x3, _⟩, _⟩, y0, y1, _⟩ := hSw; (try simp only [List.getElem_toArray, List.getElem_cons_succ, List.getElem_cons_zero]); go_simp; (try with_reducible rfl)))
        try simp only [List.getElem_toArray, List.getElem_cons_succ, List.getElem_cons_zero, Act.put, List.setIfInBounds_toArray, List.set_cons_zero, List.set_cons_succ]
        (refine wpAnyH_take (i := 11) (oi := _) (v := ?_) rfl (by kernel_rfl) (by kernel_rfl) (by kernel_rfl) (fun _ _ _ h => h) (Or.inl ⟨by rfl, ?_⟩) (by assumption) ?_; rotate_left; (intro wS hSw; obtain ⟨⟨⟨x0, x1, x2, x3, _⟩, _⟩, y0, y1, _⟩ := hSw; (try simp only [List.getElem_toArray, List.getElem_cons_succ, List.getElem_cons_zero]); go_simp; (try with_reducible rfl)))
        try simp only [List.getElem_toArray, List.getElem_cons_succ, List.getElem_cons_zero, Act.put, List.setIfInBounds_toArray, List.set_cons_zero, List.set_cons_succ]
        (refine wpAnyH_take (i := 12) (oi := _) (v := ?_) rfl (by kernel_rfl) (by kernel_rfl) (by kernel_rfl) (fun _ _ _ h => h) (Or.inl ⟨by rfl, ?_⟩) (by assumption) ?_; rotate_left; (intro wS hSw; obtain ⟨⟨⟨x0, x1, x2, x3, _⟩, _⟩, y0, y1, _⟩ := hSw; (try simp only [List.getElem_toArray, List.getElem_cons_succ, List.getElem_cons_zero]); go_simp; (try with_reducible rfl)))
        try simp only [List.getElem_toArray, List.getElem_cons_succ, List.getElem_cons_zero, Act.put, List.setIfInBounds_toArray, List.set_cons_zero, List.set_cons_succ]
        (refine wpAnyH_ready (rs := [13]) (by kernel_rfl) (by simp) ?_; refine AllReadyH.cons (o := _) rfl (fun K hK => ?_) AllReadyH.nil; (try simp only [List.getElem_toArray, List.getElem_cons_succ, List.getElem_cons_zero]); go_simp; go_at_call 32; refine (CT.out _ ((Below.refl _ wr).drew)).mono ?_; rintro e w4 ⟨rfl, hb4⟩; have hHeld := hHeld.next hb4; have HB4 := hid (((Below.refl wr.heap.size wr).drew).trans hb4); have HK4 := hid hHeld; have hrow4 : w4.ownsRow (w.heap.size + 1) 58 1 (.slice Ar L.length cr) L.length (L.map rowV) := row_under hrow.out.1 HB4.out; have HRow4 := hid hrow4; have HC3 : Hid (L.length + 1 ≤ maxLen) := (by unfold maxLen; exact hid (by have := HLL.out; omega)); have HC4 : Hid ((L.length + 1) * 24 ≤ 140737488355328) := hid (by have := HLL.out; omega); clear hb4 hrow4; go_wp2_with fail; refine hK.out _ _ hHeld (fun hHeld => ?_); clear hK K)
        try simp only [List.getElem_toArray, List.getElem_cons_succ, List.getElem_cons_zero, Act.put, List.setIfInBounds_toArray, List.set_cons_zero, List.set_cons_succ]
        (refine wpAnyH_ready (rs := [14]) (by kernel_rfl) (by simp) ?_; refine AllReadyH.cons (o := _) rfl (fun K hK => ?_) AllReadyH.nil; (try simp only [List.getElem_toArray, List.getElem_cons_succ, List.getElem_cons_zero]); go_simp; go_wp2_with fail; refine hK.out _ _ (hHeld.next ((Below.refl _ _).alloc (Nat.le_refl _) _)) (fun hHeld => ?_); clear hK K)
        try simp only [List.getElem_toArray, List.getElem_cons_succ, List.getElem_cons_zero, Act.put, List.setIfInBounds_toArray, List.set_cons_zero, List.set_cons_succ]
        (refine wpAnyH_ready (rs := [15]) (by kernel_rfl) (by simp) ?_; refine AllReadyH.cons (o := _) rfl (fun K hK => ?_) AllReadyH.nil; (try simp only [List.getElem_toArray, List.getElem_cons_succ, List.getElem_cons_zero]); go_simp; go_wp2_with fail; refine hK.out _ _ (hHeld.next ((Below.refl _ _).alloc (Nat.le_refl _) _)) (fun hHeld => ?_); clear hK K)
        try simp only [List.getElem_toArray, List.getElem_cons_succ, List.getElem_cons_zero, Act.put, List.setIfInBounds_toArray, List.set_cons_zero, List.set_cons_succ]
        (refine wpAnyH_ready (rs := [16]) (by kernel_rfl) (by simp) ?_; refine AllReadyH.cons (o := _) rfl (fun K hK => ?_) AllReadyH.nil; (try simp only [List.getElem_toArray, List.getElem_cons_succ, List.getElem_cons_zero]); refine step_append_lies (a := { tmps := _, defers := _ }) _ (by rfl) _ _ _ (by rfl) (w.heap.size + 1) 58 iS (.slice none 0 0) 1 24 Tryz.underlying27 hiS hzS hsS hbS rfl (by decide) (.slice Ar L.length cr) L.length (L.map rowV) (by rfl) (World.ownsRow.alloc (World.ownsRow.alloc HRow4.out _) _) ⟨w4.heap.size + 1, 0, none⟩ 1 1 [.slice (some ⟨w4.heap.size, 0, none⟩) 2 2] (by rfl) (by rfl) (by have := one_new (w4.alloc (.cells #[.string X1, .string X5] 9)) (.slice (some ⟨w4.heap.size, 0, none⟩) 2 2) 58; simpa using this) (one_slice _ _ _) (by decide) HC3.out HC4.out (by have := HK4.out.g.x.lt; simp; omega) (w4.heap.size + 1 + 1) (by simp) ?_; intro g7 cap7 w7 hown7 hgrow7 hat7 hlt7; have hHeld := hHeld.grown hgrow7 (fun k hk => (World.ownsRow.lt HRow4.out k hk).1); have HOWN := hid hown7; have HGR := hid hgrow7; have HAT := hid hat7; clear hown7 hgrow7 hat7; refine hK.out _ _ hHeld (fun hHeld => ?_); clear hK K)
        try simp only [Act.put, List.setIfInBounds_toArray, List.set_cons_zero, List.set_cons_succ]
        (refine wpAnyH_take (i := 17) (oi := _) (v := ?_) rfl (by kernel_rfl) (by kernel_rfl) (by kernel_rfl) (fun _ _ _ h => h) (Or.inl ⟨by rfl, ?_⟩) (by assumption) ?_; rotate_left; (intro wS hSw; obtain ⟨⟨⟨x0, x1, x2, x3, _⟩, _⟩, y0, y1, _⟩ := hSw; (try simp only [List.getElem_toArray, List.getElem_cons_succ, List.getElem_cons_zero]); go_simp; (try with_reducible rfl)))
        try simp only [List.getElem_toArray, List.getElem_cons_succ, List.getElem_cons_zero, Act.put, List.setIfInBounds_toArray, List.set_cons_zero, List.set_cons_succ]
        refine wpAnyH_done (by kernel_rfl) ?_ _
        have hin : S3.StrRow (w4.alloc (.cells #[.string X1, .string X5] 9)) w4.heap.size (.slice (some ⟨w4.heap.size, 0, none⟩) RW.length 2) RW := by
          unfold S3.StrRow
          rw [HRV.out, HR5.out]
          exact World.ownsRow_lit w4 #[.string X1, .string X5] 2 (Nat.le_refl _) (by decide) rfl
        have hown7 := HOWN.out
        rw [show (2 : Nat) = RW.length from HR5.out.symm] at hown7
        have hsn := RowsRow.snoc (c := 2) hrow.out (by have := HK4.out.g.x.lt; omega) HB4.out ((Below.refl w4.heap.size w4).alloc (Nat.le_refl _) _) hin ((Below.refl _ (w4.alloc (.cells #[.string X1, .string X5] 9))).alloc (Nat.le_refl _) _) (by rw [HR5.out] at hown7 ⊢; exact hown7) HGR.out (by
          rcases HAT.out with h | h
          · exact .inl h.symm
          · exact .inr (by rw [h]; simp [Value.ownBlock]))
        have HSN := hid hsn
        have HK7 := hid hHeld.g
        have HL2 : Hid ((L ++ [((RW, some ⟨w4.heap.size, 0, none⟩, 2) : RowA)]).map (·.1) = (l.take (i + 1)).map (rowL d s b m n)) := hid (by rw [HST.out, List.map_append]; rfl)
        clear hin hown7 hsn hHeld
        go_wp2
        go_roundw
        case rel => exact ⟨i + 1, L ++ [((RW, some ⟨w4.heap.size, 0, none⟩, 2) : RowA)], by go_num, by omega, HL2, HSN, HK7⟩
        case measure => simp [RowKit.intOf]; omega
      · have hltz : ¬ (i : Int) < (l.length : Int) := by omega
        have hL2 : Hid (L.map (·.1) = l.map (rowL d s b m n)) := hid (by rw [hL.out, List.take_of_length_le (by omega)])
        go_wp2
        go_ret2
        exact ⟨⟨_, L, hL2.out, rfl, hrow.out.low (by omega)⟩, hKK.out.b⟩
  · have hR1 : (R != 0) = true := by simpa using hR0
    have hR2 : (R == 0) = false := by simpa using hR0
    rw [if_pos hR0]
    clear hR
    go_enter Tryz.func9, Tryz.ntmps9
    go_wp2_with fail
    refine (CV.out _ HK.out.b).mono ?_
    rintro e w1 ⟨rfl, hb⟩
    have HK1 := hid (HK.out.next hb)
    clear hb HK CV
    go_wp2
    go_ret2
    exact ⟨⟨_, [], rfl, rfl, RowsRow.nil _ _⟩, HK1.out.b⟩
end Go.Proofs.YtnpfmoalgphkcaaGreatDoor
