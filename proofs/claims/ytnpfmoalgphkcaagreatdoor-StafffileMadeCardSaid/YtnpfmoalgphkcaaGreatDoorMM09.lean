/-
  Format of timegrid. Conditions: the variables hold what their text lays. The specification's functions of times of the week: Valid, Sound, Usable, Fits, meet, .. Conditions: as stated.
-/
import Derived.Test.YtnpfmoalgphkcaaGreatDoorMM01
import Derived.Test.YtnpfmoalgphkcaaGreatDoorMM02
import Derived.Test.YtnpfmoalgphkcaaGreatDoorMM03
import Derived.Test.YtnpfmoalgphkcaaGreatDoorMM04
import Derived.Test.YtnpfmoalgphkcaaGreatDoorMM05
import Derived.Test.YtnpfmoalgphkcaaGreatDoorMM06
import Derived.Test.YtnpfmoalgphkcaaGreatDoorMM07
import Derived.Test.YtnpfmoalgphkcaaGreatDoorMM08
import Derived.Test.YtnpfmoalgphkcaaGreatDoorProg
import Derived.WalkKit
import Derived.WalkSpells
import Derived.WalkLawsBesides
import Derived.Lib.Hide
import Derived.Deep.QuietTactic
import Derived.BigQuiet
import Derived.Laws.Rows
import Derived.OwnWalk
import Derived.Lib.BufferWrite
import Derived.Lib.UnsafeStr
import Derived.Laws.IdiomStrings
import Derived.Laws.BytesArg
import Derived.Laws.BytesString
import Derived.Laws.OwnMore
import Derived.Lib.IndexLaws
import Derived.Lib.ItoaNum
import Derived.Lib.Atoi
import Derived.Laws.BitsAllLaws
import Derived.Laws.BitsLemmas
import Derived.Deep.MidRow
import Derived.Shelf.Strings.Builder1
import Derived.Shelf.Strings.Builder2
import Derived.Shelf.Strings.OnBuilder
import Derived.Shelf.Strings.BuilderF
import Derived.Shelf.Strings.BuilderK
import Derived.Shelf.Strings.Builder2Cap
import Derived.Shelf.Strconv.Atoi
import Derived.Shelf.Strconv.Itoa0
import Derived.Shelf.Strconv.Itoa1
import Derived.Shelf.LaysM
import Derived.Shelf.Strconv.Itoa2
import Derived.Shelf.Strconv.Itoa3
import Derived.Shelf.Strconv.AtoiErrFast
import Derived.Shelf.Strconv.ParseIntEmpty
import Derived.Shelf.Strconv.AtoiFail
import Derived.Shelf.Strconv.Clone
import Derived.Shelf.Strconv.SyntaxError
import Derived.Shelf.LaysC
import Derived.Shelf.Strconv.ToError
import Derived.Shelf.Strconv.AtoiErr
import Derived.Shelf.Strings.Search1
import Derived.Shelf.Strings.Search2
import Derived.Shelf.Strings.Search3
import Derived.Shelf.Strings.Cut
import Derived.Shelf.Strings.Shaped
import Derived.Shelf.Strings.Prefix
import Derived.Shelf.Unicode.DecodeSlow
import Derived.Shelf.Strings.BuilderCap
import Derived.Lib.AtoiErrMem
import Derived.Handy
import Derived.RangeFuncNested
import Derived.RangeFuncBound
import Derived.RangeFuncCalls
import Derived.RangeFuncLeaves
import Derived.Shelf.Abstract
import Derived.Shelf.RegionOpen
import Derived.OwnWalkIn
import Derived.TacticsInMore
import Derived.LoopNIn
import Derived.LoopIn
import Derived.Laws.ResultCell
import Derived.Deep.RegionLaw
import Derived.Deep.RegionHeld3
import Derived.Lib.Bytealg
set_option linter.unusedVariables false
namespace Go.Proofs.YtnpfmoalgphkcaaGreatDoor
open Go Go.Proofs Go.RowKit Go.Lib
theorem Days.at_ {w : World} (h : Days w) (y : Nat) (hy : y < 7) : w.cell? ⟨2, y, none⟩ = some (.string (ba (dayS y))) := by
  refine h y _ ?_
  rcases (show y = 0 ∨ y = 1 ∨ y = 2 ∨ y = 3 ∨ y = 4 ∨ y = 5 ∨ y = 6 by omega) with rfl | rfl | rfl | rfl | rfl | rfl | rfl <;> rfl
theorem day_len (y : Nat) : (dayS y).length = 2 := by unfold dayS; split <;> rfl
structure FK (w0 : World) (d s b m k y t l : Int) (g : Nat) (Y : Nat) (D : ByteArray) (w : World) : Prop where
  k2 : K2 w0 d s b m k y t l w
  c : w.cell? ⟨g, Y, none⟩ = some (.string D)
  gl : g < w.heap.size
section
variable {w0 w w' : World} {d s b m k y t l : Int} {g Y : Nat} {D : ByteArray}
theorem FK.next (h : FK w0 d s b m k y t l g Y D w) (k' : Below w.heap.size w w') : FK w0 d s b m k y t l g Y D w' :=
  ⟨h.k2.next k', (k'.cell (p := ⟨g, Y, none⟩) h.gl).trans h.c, Nat.lt_of_lt_of_le h.gl k'.size⟩
theorem FK.drew (h : FK w0 d s b m k y t l g Y D w) : FK w0 d s b m k y t l g Y D w.drew := h.next (Below.refl _ w).drew
end
theorem ba_app (x y : Str) : ba x ++ ba y = ba (x ++ y) := by
  have h1 : (ba x ++ ba y).data.toList = x ++ y := by simp [ba]
  have h2 : lst (ba x ++ ba y) = x ++ y := h1
  rw [← ba_lst (ba x ++ ba y), h2]
set_option maxHeartbeats 8000000 in
set_option maxRecDepth 100000 in
theorem tformat_any (d s b m n k y t l : Int) (ht : t ≤ 9223372036854775807) (w : World) (hE : Env w) (hDy : Days w) :
    Calls Tryz.prog 77 #[.agg #[.int .i64 d, .int .i64 s, .int .i64 b, .int .i64 m], .int .i64 n, .agg #[.int .i64 k, .int .i64 y, .int .i64 t, .int .i64 l]] w (FormOut (textT d s b m n k y t l) w) := by
  have cF := fun w => fits_any d s b m n k y t l ht w
  have hsz := hE.size
  unfold Says at cF
  unfold FormOut textT
  by_cases hf : fitsM d s b m n k y t l = 0
  · rw [if_pos hf]
    rw [hf] at cF
    obtain ⟨f1, f2, f3, f4, f5⟩ := fits_of hf
    obtain ⟨g1, g2, g3⟩ := frame_of f1
    obtain ⟨s1, s2, s3, s4, s5⟩ := sound_of f2
    obtain ⟨N, rfl⟩ := natN (show 0 ≤ n by omega)
    obtain ⟨K, rfl⟩ := natN (show 0 ≤ k by have := (of_decide_eq_true f3 : _ ∧ _).2; omega)
    obtain ⟨Y, rfl⟩ := natN (show 0 ≤ y by omega)
    obtain ⟨T, rfl⟩ := natN (show 0 ≤ t by omega)
    obtain ⟨L, rfl⟩ := natN (show 0 ≤ l by omega)
    obtain ⟨v1, v2, v3, v4⟩ := valid_of' f3
    rw [Int.toNat_natCast] at v4
    simp only [Int.toNat_natCast]
    have HE := hid hE
    have HDY := hid hDy
    have HNM := hid (fun (w' : World) (hb : Below w.heap.size w w') => (hE.below hb hsz).names)
    have cE := fun w => endOf_any (K : Int) (Y : Int) (T : Int) (L : Int) s3 (by omega) (by omega) (by omega) w
    unfold Says at cE
    have cW := fun w => writeItem_any (T + 1) (T + L) (by omega) (by omega) w
    rw [show ((T + 1 : Nat) : Int) = (T : Int) + 1 by omega, show ((T + L : Nat) : Int) = (T : Int) + (L : Int) by omega] at cW
    have cG := hid (fun w h => format_any (K : Int) (N : Int) w h)
    have cG' := cG.out
    unfold FormOut at cG'
    rw [formM_yes f3] at cG'
    clear cG
    have cG := hid cG'
    clear cG'
    have e1 : IntKind.i64.wrap ((T : Int) + 1) = (T : Int) + 1 := IntWalk.i64_in _ (by omega)
    have hyi : (Y : Int) < 7 := by omega
    have hfl := form_lenM (s := K) (n := N)
    have hil := itemT_len (T + 1) (T + L)
    have hdl := day_len Y
    obtain ⟨A, hA⟩ : ∃ A, ba (dayS Y) = A := ⟨_, rfl⟩
    obtain ⟨I, hI⟩ : ∃ I, ba (itemT (T + 1) (T + L)) = I := ⟨_, rfl⟩
    obtain ⟨Fo, hFo⟩ : ∃ Fo, ba (formN K N) = Fo := ⟨_, rfl⟩
    have lA : A.size = 2 := by rw [← hA, ba_size]; exact hdl
    have lI : I.size ≤ 5 := by rw [← hI, ba_size]; exact hil
    have lF : Fo.size ≤ 200 := by rw [← hFo, ba_size]; exact hfl
    have a1 : ∀ w, (Op.stringOp .add A (⟨#[32]⟩ : ByteArray)).run Tryz.prog w = .ok (.string (A ++ ⟨#[32]⟩)) w := fun w => run_string_add_sum (w := w) _ _ (by rw [show (⟨#[32]⟩ : ByteArray).size = 1 from rfl]; omega)
    have lB : (A ++ (⟨#[32]⟩ : ByteArray)).size = 3 := by rw [ByteArray.size_append, lA]; rfl
    have hB2 : A ++ (⟨#[32]⟩ : ByteArray) = ba (dayS Y ++ [32]) := by rw [← hA]; exact ba_app _ _
    obtain ⟨B, hB⟩ : ∃ B, A ++ (⟨#[32]⟩ : ByteArray) = B := ⟨_, rfl⟩
    rw [hB] at a1 lB hB2
    have a2 : ∀ w, (Op.stringOp .add B I).run Tryz.prog w = .ok (.string (B ++ I)) w := fun w => run_string_add_sum (w := w) _ _ (by omega)
    have lC : (B ++ I).size ≤ 8 := by rw [ByteArray.size_append, lB]; omega
    have hC2 : B ++ I = ba (dayS Y ++ 32 :: itemT (T + 1) (T + L)) := by
      rw [hB2, ← hI, ba_app]
      simp
    obtain ⟨C, hC⟩ : ∃ C, B ++ I = C := ⟨_, rfl⟩
    rw [hC] at a2 lC hC2
    have a3 : ∀ w, (Op.stringOp .add (⟨#[32]⟩ : ByteArray) Fo).run Tryz.prog w = .ok (.string ((⟨#[32]⟩ : ByteArray) ++ Fo)) w := fun w => run_string_add_sum (w := w) _ _ (by rw [show (⟨#[32]⟩ : ByteArray).size = 1 from rfl]; omega)
    have lE : ((⟨#[32]⟩ : ByteArray) ++ Fo).size ≤ 201 := by rw [ByteArray.size_append, show (⟨#[32]⟩ : ByteArray).size = 1 from rfl]; omega
    have hE2 : (⟨#[32]⟩ : ByteArray) ++ Fo = ba (32 :: formN K N) := by rw [← hFo]; exact ba_app [32] _
    obtain ⟨E, hEq⟩ : ∃ E, (⟨#[32]⟩ : ByteArray) ++ Fo = E := ⟨_, rfl⟩
    rw [hEq] at a3 lE hE2
    have a4 : ∀ w, (Op.stringOp .add C E).run Tryz.prog w = .ok (.string (C ++ E)) w := fun w => run_string_add_sum (w := w) _ _ (by omega)
    have hG2 : C ++ E = ba (dayS Y ++ 32 :: itemT (T + 1) (T + L) ++ 32 :: formN K N) := by rw [hC2, hE2, ba_app]
    obtain ⟨G, hG⟩ : ∃ G, C ++ E = G := ⟨_, rfl⟩
    rw [hG] at a4 hG2
    rw [hI] at cW
    have cG' := cG.out
    dsimp only at cG'
    rw [hFo] at cG'
    have cG := hid cG'
    have HA := hid (fun (w : World) (h : w.cell? ⟨2, Y, none⟩ = some (.string (ba (dayS Y)))) => (by rw [← hA]; exact h : w.cell? ⟨2, Y, none⟩ = some (.string A)))
    unfold timeT
    have hall : (Fo.toList == [97, 108, 108]) = decide (formN K N = [97, 108, 108]) := by
      rw [tl_eq, ← hFo]
      show (formN K N == [97, 108, 108]) = _
      rw [Bool.eq_iff_iff]
      simp
    have HW := hid hE
    by_cases ha : formN K N = [97, 108, 108]
    · rw [if_pos ha, List.append_nil, ← hC2]
      rw [decide_eq_true ha] at hall
      have hall' : (Fo.toList != [97, 108, 108]) = false := by simp [bne, hall]
      clear hf f1 f2 f3 f4 g1 g2 g3 s1 v3 v4 ha hA hI hFo hB hC hEq hG hB2 hC2 hE2 hG2 cG' hE hDy HE HW hfl hil hdl
      have HK := hid (K2.first w d s b m (K : Int) (Y : Int) (T : Int) (L : Int) 24 26)
      go_enter Tryz.func77, Tryz.ntmps77
      go_wp2_with fail
      refine (cF _).mono ?_
      rintro e w1 ⟨rfl, hb⟩
      have hk := HK.out.next hb
      clear hb HK
      obtain ⟨⟨x0, x1, x2, x3, _⟩, ⟨y0, y1, y2, y3, _⟩, _⟩ := id hk
      have hf : FK w d s b m (K : Int) (Y : Int) (T : Int) (L : Int) 2 Y A w1 := ⟨hk, (HDY.out.below hk.b hsz).at_ Y (by omega) |> HA.out _, by have := hk.b.size; omega⟩
      clear hk x0 x1 x2 x3 y0 y1 y2 y3
      go_wp2_with fail
      refine wp_region_held_drew (S := FK w d s b m (K : Int) (Y : Int) (T : Int) (L : Int) 2 Y A) (by kernel_rfl) hf.drew (fun hHeld => ?_)
      first
        | (refine wpAnyH_take (i := 0) (oi := _) (v := undef) rfl (by kernel_rfl) (by kernel_rfl) (by kernel_rfl) (fun _ _ _ h => h) (Or.inr ⟨by rfl, rfl⟩) (by assumption) ?_)
        | (refine wpAnyH_take (i := 0) (oi := _) (v := ?_) rfl (by kernel_rfl) (by kernel_rfl) (by kernel_rfl) (fun _ _ _ h => h) (Or.inl ⟨by rfl, ?_⟩) (by assumption) ?_; rotate_left; (intro wS hSw; obtain ⟨⟨⟨x0, x1, x2, x3, _⟩, ⟨y0, y1, y2, y3, _⟩, _⟩, cc, _⟩ := hSw; (try simp only [List.getElem_toArray, List.getElem_cons_zero]); go_simp; (try with_reducible rfl)))
      try simp only [List.getElem_toArray, List.getElem_cons_zero, Act.put, List.setIfInBounds_toArray, List.set_cons_zero, List.set_cons_succ]
      first
        | (refine wpAnyH_take (i := 1) (oi := _) (v := undef) rfl (by kernel_rfl) (by kernel_rfl) (by kernel_rfl) (fun _ _ _ h => h) (Or.inr ⟨by rfl, rfl⟩) (by assumption) ?_)
        | (refine wpAnyH_take (i := 1) (oi := _) (v := ?_) rfl (by kernel_rfl) (by kernel_rfl) (by kernel_rfl) (fun _ _ _ h => h) (Or.inl ⟨by rfl, ?_⟩) (by assumption) ?_; rotate_left; (intro wS hSw; obtain ⟨⟨⟨x0, x1, x2, x3, _⟩, ⟨y0, y1, y2, y3, _⟩, _⟩, cc, _⟩ := hSw; (try simp only [List.getElem_toArray, List.getElem_cons_succ, List.getElem_cons_zero]); go_simp; (try with_reducible rfl)))
      try simp only [List.getElem_toArray, List.getElem_cons_succ, List.getElem_cons_zero, Act.put, List.setIfInBounds_toArray, List.set_cons_zero, List.set_cons_succ]
      first
        | (refine wpAnyH_take (i := 2) (oi := _) (v := undef) rfl (by kernel_rfl) (by kernel_rfl) (by kernel_rfl) (fun _ _ _ h => h) (Or.inr ⟨by rfl, rfl⟩) (by assumption) ?_)
        | (refine wpAnyH_take (i := 2) (oi := _) (v := ?_) rfl (by kernel_rfl) (by kernel_rfl) (by kernel_rfl) (fun _ _ _ h => h) (Or.inl ⟨by rfl, ?_⟩) (by assumption) ?_; rotate_left; (intro wS hSw; obtain ⟨⟨⟨x0, x1, x2, x3, _⟩, ⟨y0, y1, y2, y3, _⟩, _⟩, cc, _⟩ := hSw; (try simp only [List.getElem_toArray, List.getElem_cons_succ, List.getElem_cons_zero]); go_simp; (try with_reducible rfl)))
      try simp only [List.getElem_toArray, List.getElem_cons_succ, List.getElem_cons_zero, Act.put, List.setIfInBounds_toArray, List.set_cons_zero, List.set_cons_succ]
      first
        | (refine wpAnyH_take (i := 3) (oi := _) (v := undef) rfl (by kernel_rfl) (by kernel_rfl) (by kernel_rfl) (fun _ _ _ h => h) (Or.inr ⟨by rfl, rfl⟩) (by assumption) ?_)
        | (refine wpAnyH_take (i := 3) (oi := _) (v := ?_) rfl (by kernel_rfl) (by kernel_rfl) (by kernel_rfl) (fun _ _ _ h => h) (Or.inl ⟨by rfl, ?_⟩) (by assumption) ?_; rotate_left; (intro wS hSw; obtain ⟨⟨⟨x0, x1, x2, x3, _⟩, ⟨y0, y1, y2, y3, _⟩, _⟩, cc, _⟩ := hSw; (try simp only [List.getElem_toArray, List.getElem_cons_succ, List.getElem_cons_zero]); go_simp; (try with_reducible rfl)))
      try simp only [List.getElem_toArray, List.getElem_cons_succ, List.getElem_cons_zero, Act.put, List.setIfInBounds_toArray, List.set_cons_zero, List.set_cons_succ]
      first
        | (refine wpAnyH_take (i := 4) (oi := _) (v := undef) rfl (by kernel_rfl) (by kernel_rfl) (by kernel_rfl) (fun _ _ _ h => h) (Or.inr ⟨by rfl, rfl⟩) (by assumption) ?_)
        | (refine wpAnyH_take (i := 4) (oi := _) (v := ?_) rfl (by kernel_rfl) (by kernel_rfl) (by kernel_rfl) (fun _ _ _ h => h) (Or.inl ⟨by rfl, ?_⟩) (by assumption) ?_; rotate_left; (intro wS hSw; obtain ⟨⟨⟨x0, x1, x2, x3, _⟩, ⟨y0, y1, y2, y3, _⟩, _⟩, cc, _⟩ := hSw; (try simp only [List.getElem_toArray, List.getElem_cons_succ, List.getElem_cons_zero]); go_simp; (try with_reducible rfl)))
      try simp only [List.getElem_toArray, List.getElem_cons_succ, List.getElem_cons_zero, Act.put, List.setIfInBounds_toArray, List.set_cons_zero, List.set_cons_succ]
      first
        | (refine wpAnyH_take (i := 5) (oi := _) (v := undef) rfl (by kernel_rfl) (by kernel_rfl) (by kernel_rfl) (fun _ _ _ h => h) (Or.inr ⟨by rfl, rfl⟩) (by assumption) ?_)
        | (refine wpAnyH_take (i := 5) (oi := _) (v := ?_) rfl (by kernel_rfl) (by kernel_rfl) (by kernel_rfl) (fun _ _ _ h => h) (Or.inl ⟨by rfl, ?_⟩) (by assumption) ?_; rotate_left; (intro wS hSw; obtain ⟨⟨⟨x0, x1, x2, x3, _⟩, ⟨y0, y1, y2, y3, _⟩, _⟩, cc, _⟩ := hSw; (try simp only [List.getElem_toArray, List.getElem_cons_succ, List.getElem_cons_zero]); go_simp; (try with_reducible rfl)))
      try simp only [List.getElem_toArray, List.getElem_cons_succ, List.getElem_cons_zero, Act.put, List.setIfInBounds_toArray, List.set_cons_zero, List.set_cons_succ]
      first
        | (refine wpAnyH_take (i := 6) (oi := _) (v := undef) rfl (by kernel_rfl) (by kernel_rfl) (by kernel_rfl) (fun _ _ _ h => h) (Or.inr ⟨by rfl, rfl⟩) (by assumption) ?_)
        | (refine wpAnyH_take (i := 6) (oi := _) (v := ?_) rfl (by kernel_rfl) (by kernel_rfl) (by kernel_rfl) (fun _ _ _ h => h) (Or.inl ⟨by rfl, ?_⟩) (by assumption) ?_; rotate_left; (intro wS hSw; obtain ⟨⟨⟨x0, x1, x2, x3, _⟩, ⟨y0, y1, y2, y3, _⟩, _⟩, cc, _⟩ := hSw; (try simp only [List.getElem_toArray, List.getElem_cons_succ, List.getElem_cons_zero]); go_simp; (try with_reducible rfl)))
      try simp only [List.getElem_toArray, List.getElem_cons_succ, List.getElem_cons_zero, Act.put, List.setIfInBounds_toArray, List.set_cons_zero, List.set_cons_succ]
      first
        | (refine wpAnyH_take (i := 7) (oi := _) (v := undef) rfl (by kernel_rfl) (by kernel_rfl) (by kernel_rfl) (fun _ _ _ h => h) (Or.inr ⟨by rfl, rfl⟩) (by assumption) ?_)
        | (refine wpAnyH_take (i := 7) (oi := _) (v := ?_) rfl (by kernel_rfl) (by kernel_rfl) (by kernel_rfl) (fun _ _ _ h => h) (Or.inl ⟨by rfl, ?_⟩) (by assumption) ?_; rotate_left; (intro wS hSw; obtain ⟨⟨⟨x0, x1, x2, x3, _⟩, ⟨y0, y1, y2, y3, _⟩, _⟩, cc, _⟩ := hSw; (try simp only [List.getElem_toArray, List.getElem_cons_succ, List.getElem_cons_zero]); go_simp; (try with_reducible rfl)))
      try simp only [List.getElem_toArray, List.getElem_cons_succ, List.getElem_cons_zero, Act.put, List.setIfInBounds_toArray, List.set_cons_zero, List.set_cons_succ]
      first
        | (refine wpAnyH_take (i := 8) (oi := _) (v := undef) rfl (by kernel_rfl) (by kernel_rfl) (by kernel_rfl) (fun _ _ _ h => h) (Or.inr ⟨by rfl, rfl⟩) (by assumption) ?_)
        | (refine wpAnyH_take (i := 8) (oi := _) (v := ?_) rfl (by kernel_rfl) (by kernel_rfl) (by kernel_rfl) (fun _ _ _ h => h) (Or.inl ⟨by rfl, ?_⟩) (by assumption) ?_; rotate_left; (intro wS hSw; obtain ⟨⟨⟨x0, x1, x2, x3, _⟩, ⟨y0, y1, y2, y3, _⟩, _⟩, cc, _⟩ := hSw; (try simp only [List.getElem_toArray, List.getElem_cons_succ, List.getElem_cons_zero]); go_simp; (try with_reducible rfl)))
      try simp only [List.getElem_toArray, List.getElem_cons_succ, List.getElem_cons_zero, Act.put, List.setIfInBounds_toArray, List.set_cons_zero, List.set_cons_succ]
      first
        | (refine wpAnyH_take (i := 9) (oi := _) (v := undef) rfl (by kernel_rfl) (by kernel_rfl) (by kernel_rfl) (fun _ _ _ h => h) (Or.inr ⟨by rfl, rfl⟩) (by assumption) ?_)
        | (refine wpAnyH_ready (rs := [9]) (by kernel_rfl) (by simp) ?_; refine AllReadyH.cons (o := _) rfl (fun K hK => ?_) AllReadyH.nil; (try simp only [List.getElem_toArray, List.getElem_cons_succ, List.getElem_cons_zero]); go_simp; go_at_call 95; refine (cE _).mono ?_; rintro e w1 ⟨rfl, hb⟩; have hk2 := hHeld.next hb; clear hb hHeld; have hHeld := hk2; clear hk2; skip; go_wp2_with fail; refine hK.out _ _ hHeld (fun hHeld => ?_); clear hK K)
      try simp only [List.getElem_toArray, List.getElem_cons_succ, List.getElem_cons_zero, Act.put, List.setIfInBounds_toArray, List.set_cons_zero, List.set_cons_succ]
      first
        | (refine wpAnyH_take (i := 10) (oi := _) (v := undef) rfl (by kernel_rfl) (by kernel_rfl) (by kernel_rfl) (fun _ _ _ h => h) (Or.inr ⟨by rfl, rfl⟩) (by assumption) ?_)
        | (refine wpAnyH_ready (rs := [10]) (by kernel_rfl) (by simp) ?_; refine AllReadyH.cons (o := _) rfl (fun K hK => ?_) AllReadyH.nil; (try simp only [List.getElem_toArray, List.getElem_cons_succ, List.getElem_cons_zero]); go_simp; go_at_call 94; refine (cW _).mono ?_; rintro e w2 ⟨rfl, rfl⟩; skip; go_wp2_with fail; refine hK.out _ _ hHeld (fun hHeld => ?_); clear hK K)
      try simp only [List.getElem_toArray, List.getElem_cons_succ, List.getElem_cons_zero, Act.put, List.setIfInBounds_toArray, List.set_cons_zero, List.set_cons_succ]
      first
        | (refine wpAnyH_take (i := 11) (oi := _) (v := undef) rfl (by kernel_rfl) (by kernel_rfl) (by kernel_rfl) (fun _ _ _ h => h) (Or.inr ⟨by rfl, rfl⟩) (by assumption) ?_)
        | (refine wpAnyH_take (i := 11) (oi := _) (v := ?_) rfl (by kernel_rfl) (by kernel_rfl) (by kernel_rfl) (fun _ _ _ h => h) (Or.inl ⟨by rfl, ?_⟩) (by assumption) ?_; rotate_left; (intro wS hSw; obtain ⟨⟨⟨x0, x1, x2, x3, _⟩, ⟨y0, y1, y2, y3, _⟩, _⟩, cc, _⟩ := hSw; (try simp only [List.getElem_toArray, List.getElem_cons_succ, List.getElem_cons_zero]); go_simp; (try with_reducible rfl)))
      try simp only [List.getElem_toArray, List.getElem_cons_succ, List.getElem_cons_zero, Act.put, List.setIfInBounds_toArray, List.set_cons_zero, List.set_cons_succ]
      first
        | (refine wpAnyH_take (i := 12) (oi := _) (v := undef) rfl (by kernel_rfl) (by kernel_rfl) (by kernel_rfl) (fun _ _ _ h => h) (Or.inr ⟨by rfl, rfl⟩) (by assumption) ?_)
        | (refine wpAnyH_take (i := 12) (oi := _) (v := ?_) rfl (by kernel_rfl) (by kernel_rfl) (by kernel_rfl) (fun _ _ _ h => h) (Or.inl ⟨by rfl, ?_⟩) (by assumption) ?_; rotate_left; (intro wS hSw; obtain ⟨⟨⟨x0, x1, x2, x3, _⟩, ⟨y0, y1, y2, y3, _⟩, _⟩, cc, _⟩ := hSw; (try simp only [List.getElem_toArray, List.getElem_cons_succ, List.getElem_cons_zero]); go_simp; (try with_reducible rfl)))
      try simp only [List.getElem_toArray, List.getElem_cons_succ, List.getElem_cons_zero, Act.put, List.setIfInBounds_toArray, List.set_cons_zero, List.set_cons_succ]
      refine wpAnyH_done (by kernel_rfl) ?_ _
      have hk := hHeld.k2
      clear hHeld
      obtain ⟨⟨x0, x1, x2, x3, _⟩, ⟨y0, y1, y2, y3, _⟩, _⟩ := id hk
      go_wp2_with fail
      refine (cG.out _ (HNM.out _ hk.b)).mono ?_
      rintro e w1 ⟨rfl, hb⟩
      have hk := hk.next hb
      clear hb
      obtain ⟨⟨x0, x1, x2, x3, _⟩, ⟨y0, y1, y2, y3, _⟩, _⟩ := id hk
      go_wp2
      go_ret2
      exact ⟨rfl, hk.b⟩
    · rw [if_neg ha, ← hG2]
      rw [decide_eq_false ha] at hall
      have hall' : (Fo.toList != [97, 108, 108]) = true := by simp [bne, hall]
      clear hf f1 f2 f3 f4 g1 g2 g3 s1 v3 v4 ha hA hI hFo hB hC hEq hG hB2 hC2 hE2 hG2 cG' hE hDy HE HW hfl hil hdl
      have HK := hid (K2.first w d s b m (K : Int) (Y : Int) (T : Int) (L : Int) 24 26)
      go_enter Tryz.func77, Tryz.ntmps77
      go_wp2_with fail
      refine (cF _).mono ?_
      rintro e w1 ⟨rfl, hb⟩
      have hk := HK.out.next hb
      clear hb HK
      obtain ⟨⟨x0, x1, x2, x3, _⟩, ⟨y0, y1, y2, y3, _⟩, _⟩ := id hk
      have hf : FK w d s b m (K : Int) (Y : Int) (T : Int) (L : Int) 2 Y A w1 := ⟨hk, (HDY.out.below hk.b hsz).at_ Y (by omega) |> HA.out _, by have := hk.b.size; omega⟩
      clear hk x0 x1 x2 x3 y0 y1 y2 y3
      go_wp2_with fail
      refine wp_region_held_drew (S := FK w d s b m (K : Int) (Y : Int) (T : Int) (L : Int) 2 Y A) (by kernel_rfl) hf.drew (fun hHeld => ?_)
      first
        | (refine wpAnyH_take (i := 0) (oi := _) (v := undef) rfl (by kernel_rfl) (by kernel_rfl) (by kernel_rfl) (fun _ _ _ h => h) (Or.inr ⟨by rfl, rfl⟩) (by assumption) ?_)
        | (refine wpAnyH_take (i := 0) (oi := _) (v := ?_) rfl (by kernel_rfl) (by kernel_rfl) (by kernel_rfl) (fun _ _ _ h => h) (Or.inl ⟨by rfl, ?_⟩) (by assumption) ?_; rotate_left; (intro wS hSw; obtain ⟨⟨⟨x0, x1, x2, x3, _⟩, ⟨y0, y1, y2, y3, _⟩, _⟩, cc, _⟩ := hSw; (try simp only [List.getElem_toArray, List.getElem_cons_zero]); go_simp; (try with_reducible rfl)))
      try simp only [List.getElem_toArray, List.getElem_cons_zero, Act.put, List.setIfInBounds_toArray, List.set_cons_zero, List.set_cons_succ]
      first
        | (refine wpAnyH_take (i := 1) (oi := _) (v := undef) rfl (by kernel_rfl) (by kernel_rfl) (by kernel_rfl) (fun _ _ _ h => h) (Or.inr ⟨by rfl, rfl⟩) (by assumption) ?_)
        | (refine wpAnyH_take (i := 1) (oi := _) (v := ?_) rfl (by kernel_rfl) (by kernel_rfl) (by kernel_rfl) (fun _ _ _ h => h) (Or.inl ⟨by rfl, ?_⟩) (by assumption) ?_; rotate_left; (intro wS hSw; obtain ⟨⟨⟨x0, x1, x2, x3, _⟩, ⟨y0, y1, y2, y3, _⟩, _⟩, cc, _⟩ := hSw; (try simp only [List.getElem_toArray, List.getElem_cons_succ, List.getElem_cons_zero]); go_simp; (try with_reducible rfl)))
      try simp only [List.getElem_toArray, List.getElem_cons_succ, List.getElem_cons_zero, Act.put, List.setIfInBounds_toArray, List.set_cons_zero, List.set_cons_succ]
      first
        | (refine wpAnyH_take (i := 2) (oi := _) (v := undef) rfl (by kernel_rfl) (by kernel_rfl) (by kernel_rfl) (fun _ _ _ h => h) (Or.inr ⟨by rfl, rfl⟩) (by assumption) ?_)
        | (refine wpAnyH_take (i := 2) (oi := _) (v := ?_) rfl (by kernel_rfl) (by kernel_rfl) (by kernel_rfl) (fun _ _ _ h => h) (Or.inl ⟨by rfl, ?_⟩) (by assumption) ?_; rotate_left; (intro wS hSw; obtain ⟨⟨⟨x0, x1, x2, x3, _⟩, ⟨y0, y1, y2, y3, _⟩, _⟩, cc, _⟩ := hSw; (try simp only [List.getElem_toArray, List.getElem_cons_succ, List.getElem_cons_zero]); go_simp; (try with_reducible rfl)))
      try simp only [List.getElem_toArray, List.getElem_cons_succ, List.getElem_cons_zero, Act.put, List.setIfInBounds_toArray, List.set_cons_zero, List.set_cons_succ]
      first
        | (refine wpAnyH_take (i := 3) (oi := _) (v := undef) rfl (by kernel_rfl) (by kernel_rfl) (by kernel_rfl) (fun _ _ _ h => h) (Or.inr ⟨by rfl, rfl⟩) (by assumption) ?_)
        | (refine wpAnyH_take (i := 3) (oi := _) (v := ?_) rfl (by kernel_rfl) (by kernel_rfl) (by kernel_rfl) (fun _ _ _ h => h) (Or.inl ⟨by rfl, ?_⟩) (by assumption) ?_; rotate_left; (intro wS hSw; obtain ⟨⟨⟨x0, x1, x2, x3, _⟩, ⟨y0, y1, y2, y3, _⟩, _⟩, cc, _⟩ := hSw; (try simp only [List.getElem_toArray, List.getElem_cons_succ, List.getElem_cons_zero]); go_simp; (try with_reducible rfl)))
      try simp only [List.getElem_toArray, List.getElem_cons_succ, List.getElem_cons_zero, Act.put, List.setIfInBounds_toArray, List.set_cons_zero, List.set_cons_succ]
      first
        | (refine wpAnyH_take (i := 4) (oi := _) (v := undef) rfl (by kernel_rfl) (by kernel_rfl) (by kernel_rfl) (fun _ _ _ h => h) (Or.inr ⟨by rfl, rfl⟩) (by assumption) ?_)
        | (refine wpAnyH_take (i := 4) (oi := _) (v := ?_) rfl (by kernel_rfl) (by kernel_rfl) (by kernel_rfl) (fun _ _ _ h => h) (Or.inl ⟨by rfl, ?_⟩) (by assumption) ?_; rotate_left; (intro wS hSw; obtain ⟨⟨⟨x0, x1, x2, x3, _⟩, ⟨y0, y1, y2, y3, _⟩, _⟩, cc, _⟩ := hSw; (try simp only [List.getElem_toArray, List.getElem_cons_succ, List.getElem_cons_zero]); go_simp; (try with_reducible rfl)))
      try simp only [List.getElem_toArray, List.getElem_cons_succ, List.getElem_cons_zero, Act.put, List.setIfInBounds_toArray, List.set_cons_zero, List.set_cons_succ]
      first
        | (refine wpAnyH_take (i := 5) (oi := _) (v := undef) rfl (by kernel_rfl) (by kernel_rfl) (by kernel_rfl) (fun _ _ _ h => h) (Or.inr ⟨by rfl, rfl⟩) (by assumption) ?_)
        | (refine wpAnyH_take (i := 5) (oi := _) (v := ?_) rfl (by kernel_rfl) (by kernel_rfl) (by kernel_rfl) (fun _ _ _ h => h) (Or.inl ⟨by rfl, ?_⟩) (by assumption) ?_; rotate_left; (intro wS hSw; obtain ⟨⟨⟨x0, x1, x2, x3, _⟩, ⟨y0, y1, y2, y3, _⟩, _⟩, cc, _⟩ := hSw; (try simp only [List.getElem_toArray, List.getElem_cons_succ, List.getElem_cons_zero]); go_simp; (try with_reducible rfl)))
      try simp only [List.getElem_toArray, List.getElem_cons_succ, List.getElem_cons_zero, Act.put, List.setIfInBounds_toArray, List.set_cons_zero, List.set_cons_succ]
      first
        | (refine wpAnyH_take (i := 6) (oi := _) (v := undef) rfl (by kernel_rfl) (by kernel_rfl) (by kernel_rfl) (fun _ _ _ h => h) (Or.inr ⟨by rfl, rfl⟩) (by assumption) ?_)
        | (refine wpAnyH_take (i := 6) (oi := _) (v := ?_) rfl (by kernel_rfl) (by kernel_rfl) (by kernel_rfl) (fun _ _ _ h => h) (Or.inl ⟨by rfl, ?_⟩) (by assumption) ?_; rotate_left; (intro wS hSw; obtain ⟨⟨⟨x0, x1, x2, x3, _⟩, ⟨y0, y1, y2, y3, _⟩, _⟩, cc, _⟩ := hSw; (try simp only [List.getElem_toArray, List.getElem_cons_succ, List.getElem_cons_zero]); go_simp; (try with_reducible rfl)))
      try simp only [List.getElem_toArray, List.getElem_cons_succ, List.getElem_cons_zero, Act.put, List.setIfInBounds_toArray, List.set_cons_zero, List.set_cons_succ]
      first
        | (refine wpAnyH_take (i := 7) (oi := _) (v := undef) rfl (by kernel_rfl) (by kernel_rfl) (by kernel_rfl) (fun _ _ _ h => h) (Or.inr ⟨by rfl, rfl⟩) (by assumption) ?_)
        | (refine wpAnyH_take (i := 7) (oi := _) (v := ?_) rfl (by kernel_rfl) (by kernel_rfl) (by kernel_rfl) (fun _ _ _ h => h) (Or.inl ⟨by rfl, ?_⟩) (by assumption) ?_; rotate_left; (intro wS hSw; obtain ⟨⟨⟨x0, x1, x2, x3, _⟩, ⟨y0, y1, y2, y3, _⟩, _⟩, cc, _⟩ := hSw; (try simp only [List.getElem_toArray, List.getElem_cons_succ, List.getElem_cons_zero]); go_simp; (try with_reducible rfl)))
      try simp only [List.getElem_toArray, List.getElem_cons_succ, List.getElem_cons_zero, Act.put, List.setIfInBounds_toArray, List.set_cons_zero, List.set_cons_succ]
      first
        | (refine wpAnyH_take (i := 8) (oi := _) (v := undef) rfl (by kernel_rfl) (by kernel_rfl) (by kernel_rfl) (fun _ _ _ h => h) (Or.inr ⟨by rfl, rfl⟩) (by assumption) ?_)
        | (refine wpAnyH_take (i := 8) (oi := _) (v := ?_) rfl (by kernel_rfl) (by kernel_rfl) (by kernel_rfl) (fun _ _ _ h => h) (Or.inl ⟨by rfl, ?_⟩) (by assumption) ?_; rotate_left; (intro wS hSw; obtain ⟨⟨⟨x0, x1, x2, x3, _⟩, ⟨y0, y1, y2, y3, _⟩, _⟩, cc, _⟩ := hSw; (try simp only [List.getElem_toArray, List.getElem_cons_succ, List.getElem_cons_zero]); go_simp; (try with_reducible rfl)))
      try simp only [List.getElem_toArray, List.getElem_cons_succ, List.getElem_cons_zero, Act.put, List.setIfInBounds_toArray, List.set_cons_zero, List.set_cons_succ]
      first
        | (refine wpAnyH_take (i := 9) (oi := _) (v := undef) rfl (by kernel_rfl) (by kernel_rfl) (by kernel_rfl) (fun _ _ _ h => h) (Or.inr ⟨by rfl, rfl⟩) (by assumption) ?_)
        | (refine wpAnyH_ready (rs := [9]) (by kernel_rfl) (by simp) ?_; refine AllReadyH.cons (o := _) rfl (fun K hK => ?_) AllReadyH.nil; (try simp only [List.getElem_toArray, List.getElem_cons_succ, List.getElem_cons_zero]); go_simp; go_at_call 95; refine (cE _).mono ?_; rintro e w1 ⟨rfl, hb⟩; have hk2 := hHeld.next hb; clear hb hHeld; have hHeld := hk2; clear hk2; skip; go_wp2_with fail; refine hK.out _ _ hHeld (fun hHeld => ?_); clear hK K)
      try simp only [List.getElem_toArray, List.getElem_cons_succ, List.getElem_cons_zero, Act.put, List.setIfInBounds_toArray, List.set_cons_zero, List.set_cons_succ]
      first
        | (refine wpAnyH_take (i := 10) (oi := _) (v := undef) rfl (by kernel_rfl) (by kernel_rfl) (by kernel_rfl) (fun _ _ _ h => h) (Or.inr ⟨by rfl, rfl⟩) (by assumption) ?_)
        | (refine wpAnyH_ready (rs := [10]) (by kernel_rfl) (by simp) ?_; refine AllReadyH.cons (o := _) rfl (fun K hK => ?_) AllReadyH.nil; (try simp only [List.getElem_toArray, List.getElem_cons_succ, List.getElem_cons_zero]); go_simp; go_at_call 94; refine (cW _).mono ?_; rintro e w2 ⟨rfl, rfl⟩; skip; go_wp2_with fail; refine hK.out _ _ hHeld (fun hHeld => ?_); clear hK K)
      try simp only [List.getElem_toArray, List.getElem_cons_succ, List.getElem_cons_zero, Act.put, List.setIfInBounds_toArray, List.set_cons_zero, List.set_cons_succ]
      first
        | (refine wpAnyH_take (i := 11) (oi := _) (v := undef) rfl (by kernel_rfl) (by kernel_rfl) (by kernel_rfl) (fun _ _ _ h => h) (Or.inr ⟨by rfl, rfl⟩) (by assumption) ?_)
        | (refine wpAnyH_take (i := 11) (oi := _) (v := ?_) rfl (by kernel_rfl) (by kernel_rfl) (by kernel_rfl) (fun _ _ _ h => h) (Or.inl ⟨by rfl, ?_⟩) (by assumption) ?_; rotate_left; (intro wS hSw; obtain ⟨⟨⟨x0, x1, x2, x3, _⟩, ⟨y0, y1, y2, y3, _⟩, _⟩, cc, _⟩ := hSw; (try simp only [List.getElem_toArray, List.getElem_cons_succ, List.getElem_cons_zero]); go_simp; (try with_reducible rfl)))
      try simp only [List.getElem_toArray, List.getElem_cons_succ, List.getElem_cons_zero, Act.put, List.setIfInBounds_toArray, List.set_cons_zero, List.set_cons_succ]
      first
        | (refine wpAnyH_take (i := 12) (oi := _) (v := undef) rfl (by kernel_rfl) (by kernel_rfl) (by kernel_rfl) (fun _ _ _ h => h) (Or.inr ⟨by rfl, rfl⟩) (by assumption) ?_)
        | (refine wpAnyH_take (i := 12) (oi := _) (v := ?_) rfl (by kernel_rfl) (by kernel_rfl) (by kernel_rfl) (fun _ _ _ h => h) (Or.inl ⟨by rfl, ?_⟩) (by assumption) ?_; rotate_left; (intro wS hSw; obtain ⟨⟨⟨x0, x1, x2, x3, _⟩, ⟨y0, y1, y2, y3, _⟩, _⟩, cc, _⟩ := hSw; (try simp only [List.getElem_toArray, List.getElem_cons_succ, List.getElem_cons_zero]); go_simp; (try with_reducible rfl)))
      try simp only [List.getElem_toArray, List.getElem_cons_succ, List.getElem_cons_zero, Act.put, List.setIfInBounds_toArray, List.set_cons_zero, List.set_cons_succ]
      refine wpAnyH_done (by kernel_rfl) ?_ _
      have hk := hHeld.k2
      clear hHeld
      obtain ⟨⟨x0, x1, x2, x3, _⟩, ⟨y0, y1, y2, y3, _⟩, _⟩ := id hk
      go_wp2_with fail
      refine (cG.out _ (HNM.out _ hk.b)).mono ?_
      rintro e w1 ⟨rfl, hb⟩
      have hk := hk.next hb
      clear hb
      obtain ⟨⟨x0, x1, x2, x3, _⟩, ⟨y0, y1, y2, y3, _⟩, _⟩ := id hk
      go_wp2
      go_ret2
      exact ⟨rfl, hk.b⟩
  · rw [if_neg hf]
    have hne : (fitsM d s b m n k y t l != 0) = true := by simpa using hf
    generalize fitsM d s b m n k y t l = R at cF hne ⊢
    clear hf hE hDy
    have HK := hid (K2.first w d s b m k y t l 24 26)
    go_enter Tryz.func77, Tryz.ntmps77
    go_wp2_with fail
    refine (cF _).mono ?_
    rintro e w1 ⟨rfl, hb⟩
    have hk := HK.out.next hb
    clear hb HK
    obtain ⟨⟨x0, x1, x2, x3, _⟩, ⟨y0, y1, y2, y3, _⟩, _⟩ := id hk
    go_wp2
    go_ret2
    exact ⟨rfl, hk.b⟩
set_option maxHeartbeats 8000000 in
theorem rgvalid_any (d s b m : Int) (w : World) : Calls Tryz.prog 66 #[.agg #[.int .i64 d, .int .i64 s, .int .i64 b, .int .i64 m]] w (Says (.int .i64 (if gridB d s b m = true then 0 else 3)) w) := by
  unfold Says
  by_cases h0 : d < 1
  · have h0d : decide (d < 1) = true := decide_eq_true h0
    rw [show gridB d s b m = false from decide_eq_false (fun h => by obtain ⟨a1, a2, a3, a4, a5⟩ := h; omega), if_neg (by simp)]
    have HK := hid (K1.first w d s b m 24)
    go_enter Tryz.func66, Tryz.ntmps66
    go_wp2
    go_ret
    exact ⟨rfl, HK.out.b⟩
  · have h0d : decide (d < 1) = false := decide_eq_false h0
    by_cases h1 : 7 < d
    · have h1d : decide (7 < d) = true := decide_eq_true h1
      rw [show gridB d s b m = false from decide_eq_false (fun h => by obtain ⟨a1, a2, a3, a4, a5⟩ := h; omega), if_neg (by simp)]
      have HK := hid (K1.first w d s b m 24)
      go_enter Tryz.func66, Tryz.ntmps66
      go_wp2
      go_ret
      exact ⟨rfl, HK.out.b⟩
    · have h1d : decide (7 < d) = false := decide_eq_false h1
      by_cases h2 : s < 1
      · have h2d : decide (s < 1) = true := decide_eq_true h2
        rw [show gridB d s b m = false from decide_eq_false (fun h => by obtain ⟨a1, a2, a3, a4, a5⟩ := h; omega), if_neg (by simp)]
        have HK := hid (K1.first w d s b m 24)
        go_enter Tryz.func66, Tryz.ntmps66
        go_wp2
        go_ret
        exact ⟨rfl, HK.out.b⟩
      · have h2d : decide (s < 1) = false := decide_eq_false h2
        by_cases h3 : 24 < s
        · have h3d : decide (24 < s) = true := decide_eq_true h3
          rw [show gridB d s b m = false from decide_eq_false (fun h => by obtain ⟨a1, a2, a3, a4, a5⟩ := h; omega), if_neg (by simp)]
          have HK := hid (K1.first w d s b m 24)
          go_enter Tryz.func66, Tryz.ntmps66
          go_wp2
          go_ret
          exact ⟨rfl, HK.out.b⟩
        · have h3d : decide (24 < s) = false := decide_eq_false h3
          by_cases h4 : b < 0
          · have h4d : decide (b < 0) = true := decide_eq_true h4
            rw [show gridB d s b m = false from decide_eq_false (fun h => by obtain ⟨a1, a2, a3, a4, a5⟩ := h; omega), if_neg (by simp)]
            have HK := hid (K1.first w d s b m 24)
            go_enter Tryz.func66, Tryz.ntmps66
            go_wp2
            go_ret
            exact ⟨rfl, HK.out.b⟩
          · have h4d : decide (b < 0) = false := decide_eq_false h4
            by_cases h5 : 1439 < b
            · have h5d : decide (1439 < b) = true := decide_eq_true h5
              rw [show gridB d s b m = false from decide_eq_false (fun h => by obtain ⟨a1, a2, a3, a4, a5⟩ := h; omega), if_neg (by simp)]
              have HK := hid (K1.first w d s b m 24)
              go_enter Tryz.func66, Tryz.ntmps66
              go_wp2
              go_ret
              exact ⟨rfl, HK.out.b⟩
            · have h5d : decide (1439 < b) = false := decide_eq_false h5
              by_cases h6 : m < 5
              · have h6d : decide (m < 5) = true := decide_eq_true h6
                rw [show gridB d s b m = false from decide_eq_false (fun h => by obtain ⟨a1, a2, a3, a4, a5⟩ := h; omega), if_neg (by simp)]
                have HK := hid (K1.first w d s b m 24)
                go_enter Tryz.func66, Tryz.ntmps66
                go_wp2
                go_ret
                exact ⟨rfl, HK.out.b⟩
              · have h6d : decide (m < 5) = false := decide_eq_false h6
                by_cases h7 : 120 < m
                · have h7d : decide (120 < m) = true := decide_eq_true h7
                  rw [show gridB d s b m = false from decide_eq_false (fun h => by obtain ⟨a1, a2, a3, a4, a5⟩ := h; omega), if_neg (by simp)]
                  have HK := hid (K1.first w d s b m 24)
                  go_enter Tryz.func66, Tryz.ntmps66
                  go_wp2
                  go_ret
                  exact ⟨rfl, HK.out.b⟩
                · have h7d : decide (120 < m) = false := decide_eq_false h7
                  by_cases h8 : 1440 < b + s * m
                  · have h8d : decide (1440 < b + s * m) = true := decide_eq_true h8
                    have hm := mul_in (q := s) (m := m) (by omega) (by omega) (by omega) (by omega)
                    have e1 : IntKind.i64.wrap (s * m) = s * m := IntWalk.i64_in _ (by omega)
                    have e2 : IntKind.i64.wrap (b + s * m) = b + s * m := IntWalk.i64_in _ (by omega)
                    rw [show gridB d s b m = false from decide_eq_false (fun h => by obtain ⟨a1, a2, a3, a4, a5⟩ := h; omega), if_neg (by simp)]
                    skip
                    clear hm
                    have HK := hid (K1.first w d s b m 24)
                    go_enter Tryz.func66, Tryz.ntmps66
                    go_wp2
                    go_ret
                    exact ⟨rfl, HK.out.b⟩
                  · have h8d : decide (1440 < b + s * m) = false := decide_eq_false h8
                    have hm := mul_in (q := s) (m := m) (by omega) (by omega) (by omega) (by omega)
                    have e1 : IntKind.i64.wrap (s * m) = s * m := IntWalk.i64_in _ (by omega)
                    have e2 : IntKind.i64.wrap (b + s * m) = b + s * m := IntWalk.i64_in _ (by omega)
                    rw [show gridB d s b m = true from decide_eq_true ⟨by omega, by omega, by omega, by omega, by omega⟩, if_pos rfl]
                    skip
                    clear hm
                    have HK := hid (K1.first w d s b m 24)
                    go_enter Tryz.func66, Tryz.ntmps66
                    go_wp2
                    go_ret
                    exact ⟨rfl, HK.out.b⟩
set_option maxHeartbeats 8000000 in
theorem rsound_any (k y t l : Int) (w : World) : Calls Tryz.prog 69 #[.agg #[.int .i64 k, .int .i64 y, .int .i64 t, .int .i64 l]] w (Says (.bool (soundB k y t l)) w) := by
  have cV := fun w => rvalid_any k 20 w
  unfold Says
  cases hv : validM k 20 with
  | false =>
    rw [hv] at cV
    rw [sound_no (fun h => by have := h.1; rw [hv] at this; simp at this)]
    clear hv
    have HK := hid (K1.first w k y t l 26)
    go_enter Tryz.func69, Tryz.ntmps69
    go_wp2_with fail
    refine (cV _).mono ?_
    rintro e w1 ⟨rfl, q, hq⟩
    have hk := HK.out.next (show Below _ _ w1 by rw [hq]; exact below_drewN (Below.refl _ _) q)
    clear hq HK
    obtain ⟨⟨x0, x1, x2, x3, _⟩, _⟩ := id hk
    go_wp2
    go_ret
    exact ⟨rfl, hk.b⟩
  | true =>
    rw [hv] at cV
    by_cases h0 : 0 ≤ y
    · have h0d : decide (0 ≤ y) = true := decide_eq_true h0
      by_cases h1 : y ≤ 6
      · have h1d : decide (y ≤ 6) = true := decide_eq_true h1
        by_cases h2 : 0 ≤ t
        · have h2d : decide (0 ≤ t) = true := decide_eq_true h2
          by_cases h3 : 1 ≤ l
          · have h3d : decide (1 ≤ l) = true := decide_eq_true h3
            by_cases h4 : t ≤ 24
            · have h4d : decide (t ≤ 24) = true := decide_eq_true h4
              by_cases h5 : l ≤ 24
              · have h5d : decide (l ≤ 24) = true := decide_eq_true h5
                by_cases h6 : t + l ≤ 24
                · have h6d : decide (t + l ≤ 24) = true := decide_eq_true h6
                  rw [sound_yes ⟨hv, by omega, by omega, by omega, by omega⟩]
                  clear hv
                  have HK := hid (K1.first w k y t l 26)
                  go_enter Tryz.func69, Tryz.ntmps69
                  go_wp2_with fail
                  refine (cV _).mono ?_
                  rintro e w1 ⟨rfl, q, hq⟩
                  have hk := HK.out.next (show Below _ _ w1 by rw [hq]; exact below_drewN (Below.refl _ _) q)
                  clear hq HK
                  obtain ⟨⟨x0, x1, x2, x3, _⟩, _⟩ := id hk
                  go_wp2
                  go_ret
                  exact ⟨rfl, hk.b⟩
                · have h6d : decide (t + l ≤ 24) = false := decide_eq_false h6
                  rw [sound_no (fun h => by obtain ⟨a1, a2, a3, a4, a5⟩ := h; omega)]
                  clear hv
                  have HK := hid (K1.first w k y t l 26)
                  go_enter Tryz.func69, Tryz.ntmps69
                  go_wp2_with fail
                  refine (cV _).mono ?_
                  rintro e w1 ⟨rfl, q, hq⟩
                  have hk := HK.out.next (show Below _ _ w1 by rw [hq]; exact below_drewN (Below.refl _ _) q)
                  clear hq HK
                  obtain ⟨⟨x0, x1, x2, x3, _⟩, _⟩ := id hk
                  go_wp2
                  go_ret
                  exact ⟨rfl, hk.b⟩
              · have h5d : decide (l ≤ 24) = false := decide_eq_false h5
                rw [sound_no (fun h => by obtain ⟨a1, a2, a3, a4, a5⟩ := h; omega)]
                clear hv
                have HK := hid (K1.first w k y t l 26)
                go_enter Tryz.func69, Tryz.ntmps69
                go_wp2_with fail
                refine (cV _).mono ?_
                rintro e w1 ⟨rfl, q, hq⟩
                have hk := HK.out.next (show Below _ _ w1 by rw [hq]; exact below_drewN (Below.refl _ _) q)
                clear hq HK
                obtain ⟨⟨x0, x1, x2, x3, _⟩, _⟩ := id hk
                go_wp2
                go_ret
                exact ⟨rfl, hk.b⟩
            · have h4d : decide (t ≤ 24) = false := decide_eq_false h4
              rw [sound_no (fun h => by obtain ⟨a1, a2, a3, a4, a5⟩ := h; omega)]
              clear hv
              have HK := hid (K1.first w k y t l 26)
              go_enter Tryz.func69, Tryz.ntmps69
              go_wp2_with fail
              refine (cV _).mono ?_
              rintro e w1 ⟨rfl, q, hq⟩
              have hk := HK.out.next (show Below _ _ w1 by rw [hq]; exact below_drewN (Below.refl _ _) q)
              clear hq HK
              obtain ⟨⟨x0, x1, x2, x3, _⟩, _⟩ := id hk
              go_wp2
              go_ret
              exact ⟨rfl, hk.b⟩
          · have h3d : decide (1 ≤ l) = false := decide_eq_false h3
            rw [sound_no (fun h => by obtain ⟨a1, a2, a3, a4, a5⟩ := h; omega)]
            clear hv
            have HK := hid (K1.first w k y t l 26)
            go_enter Tryz.func69, Tryz.ntmps69
            go_wp2_with fail
            refine (cV _).mono ?_
            rintro e w1 ⟨rfl, q, hq⟩
            have hk := HK.out.next (show Below _ _ w1 by rw [hq]; exact below_drewN (Below.refl _ _) q)
            clear hq HK
            obtain ⟨⟨x0, x1, x2, x3, _⟩, _⟩ := id hk
            go_wp2
            go_ret
            exact ⟨rfl, hk.b⟩
        · have h2d : decide (0 ≤ t) = false := decide_eq_false h2
          rw [sound_no (fun h => by obtain ⟨a1, a2, a3, a4, a5⟩ := h; omega)]
          clear hv
          have HK := hid (K1.first w k y t l 26)
          go_enter Tryz.func69, Tryz.ntmps69
          go_wp2_with fail
          refine (cV _).mono ?_
          rintro e w1 ⟨rfl, q, hq⟩
          have hk := HK.out.next (show Below _ _ w1 by rw [hq]; exact below_drewN (Below.refl _ _) q)
          clear hq HK
          obtain ⟨⟨x0, x1, x2, x3, _⟩, _⟩ := id hk
          go_wp2
          go_ret
          exact ⟨rfl, hk.b⟩
      · have h1d : decide (y ≤ 6) = false := decide_eq_false h1
        rw [sound_no (fun h => by obtain ⟨a1, a2, a3, a4, a5⟩ := h; omega)]
        clear hv
        have HK := hid (K1.first w k y t l 26)
        go_enter Tryz.func69, Tryz.ntmps69
        go_wp2_with fail
        refine (cV _).mono ?_
        rintro e w1 ⟨rfl, q, hq⟩
        have hk := HK.out.next (show Below _ _ w1 by rw [hq]; exact below_drewN (Below.refl _ _) q)
        clear hq HK
        obtain ⟨⟨x0, x1, x2, x3, _⟩, _⟩ := id hk
        go_wp2
        go_ret
        exact ⟨rfl, hk.b⟩
    · have h0d : decide (0 ≤ y) = false := decide_eq_false h0
      rw [sound_no (fun h => by obtain ⟨a1, a2, a3, a4, a5⟩ := h; omega)]
      clear hv
      have HK := hid (K1.first w k y t l 26)
      go_enter Tryz.func69, Tryz.ntmps69
      go_wp2_with fail
      refine (cV _).mono ?_
      rintro e w1 ⟨rfl, q, hq⟩
      have hk := HK.out.next (show Below _ _ w1 by rw [hq]; exact below_drewN (Below.refl _ _) q)
      clear hq HK
      obtain ⟨⟨x0, x1, x2, x3, _⟩, _⟩ := id hk
      go_wp2
      go_ret
      exact ⟨rfl, hk.b⟩
set_option maxHeartbeats 4000000 in
theorem usable_any (d s b m n : Int) (w : World) : Calls Tryz.prog 42 #[.agg #[.int .i64 d, .int .i64 s, .int .i64 b, .int .i64 m], .int .i64 n] w (Says (.bool (frameB d s b m n)) w) := by
  have cG := fun w => rgvalid_any d s b m w
  unfold Says at cG ⊢
  cases hg : gridB d s b m with
  | false =>
    rw [hg, if_neg (by simp)] at cG
    rw [frame_no (fun h => by rw [hg] at h; exact absurd h.1 (by simp))]
    clear hg
    have HK := hid (K1.first w d s b m 24)
    go_enter Tryz.func42, Tryz.ntmps42
    go_wp2_with fail
    refine (cG _).mono ?_
    rintro e w1 ⟨rfl, hb⟩
    have hk := HK.out.next hb
    clear hb HK
    go_wp2
    go_ret
    exact ⟨rfl, hk.b⟩
  | true =>
    rw [hg, if_pos rfl] at cG
    by_cases h0 : 1 ≤ n
    · have h0d : decide (1 ≤ n) = true := decide_eq_true h0
      by_cases h1 : n ≤ 20
      · have h1d : decide (n ≤ 20) = true := decide_eq_true h1
        rw [show frameB d s b m n = true from decide_eq_true ⟨hg, h0, h1⟩]
        clear hg
        have HK := hid (K1.first w d s b m 24)
        go_enter Tryz.func42, Tryz.ntmps42
        go_wp2_with fail
        refine (cG _).mono ?_
        rintro e w1 ⟨rfl, hb⟩
        have hk := HK.out.next hb
        clear hb HK
        go_wp2
        go_ret
        exact ⟨rfl, hk.b⟩
      · have h1d : decide (n ≤ 20) = false := decide_eq_false h1
        rw [frame_no (fun h => by omega)]
        clear hg
        have HK := hid (K1.first w d s b m 24)
        go_enter Tryz.func42, Tryz.ntmps42
        go_wp2_with fail
        refine (cG _).mono ?_
        rintro e w1 ⟨rfl, hb⟩
        have hk := HK.out.next hb
        clear hb HK
        go_wp2
        go_ret
        exact ⟨rfl, hk.b⟩
    · have h0d : decide (1 ≤ n) = false := decide_eq_false h0
      rw [frame_no (fun h => by omega)]
      clear hg
      have HK := hid (K1.first w d s b m 24)
      go_enter Tryz.func42, Tryz.ntmps42
      go_wp2_with fail
      refine (cG _).mono ?_
      rintro e w1 ⟨rfl, hb⟩
      have hk := HK.out.next hb
      clear hb HK
      go_wp2
      go_ret
      exact ⟨rfl, hk.b⟩
set_option maxHeartbeats 8000000 in
set_option maxRecDepth 100000 in
theorem rfits_any (d s b m n k y t l : Int) (w : World) : Calls Tryz.prog 44 #[.agg #[.int .i64 d, .int .i64 s, .int .i64 b, .int .i64 m], .int .i64 n, .agg #[.int .i64 k, .int .i64 y, .int .i64 t, .int .i64 l]] w (Says (.int .i64 (fitsM d s b m n k y t l)) w) := by
  have cF := fun w => usable_any d s b m n w
  have cS := fun w => rsound_any k y t l w
  have cV := fun w => rvalid_any k n w
  unfold Says at cF cS ⊢
  cases hf : frameB d s b m n with
  | false =>
    rw [show fitsM d s b m n k y t l = 1 by unfold fitsM; rw [if_neg (by rw [hf]; simp)]]
    rw [hf] at cF
    clear hf cS cV
    have HK := hid (K2.first w d s b m k y t l 24 26)
    go_enter Tryz.func44, Tryz.ntmps44
    go_wp2_with fail
    refine (cF _).mono ?_
    rintro e w1 ⟨rfl, hb⟩
    have hk := HK.out.next hb
    clear hb HK
    obtain ⟨⟨x0, x1, x2, x3, _⟩, ⟨y0, y1, y2, y3, _⟩, _⟩ := id hk
    go_wp2
    go_ret
    exact ⟨rfl, hk.b⟩
  | true =>
    rw [hf] at cF
    cases hs : soundB k y t l with
    | false =>
      rw [fits_no hf (fun h => by rw [hs] at h; exact absurd h.1 (by simp))]
      rw [hs] at cS
      clear hf hs cV
      have HK := hid (K2.first w d s b m k y t l 24 26)
      go_enter Tryz.func44, Tryz.ntmps44
      go_wp2_with fail
      refine (cF _).mono ?_
      rintro e w1 ⟨rfl, hb⟩
      have hk := HK.out.next hb
      clear hb HK
      obtain ⟨⟨x0, x1, x2, x3, _⟩, ⟨y0, y1, y2, y3, _⟩, _⟩ := id hk
      go_wp2_with fail
      refine (cS _).mono ?_
      rintro e w1 ⟨rfl, hb⟩
      have hk := hk.next hb
      clear hb
      obtain ⟨⟨x0, x1, x2, x3, _⟩, ⟨y0, y1, y2, y3, _⟩, _⟩ := id hk
      go_wp2
      go_ret
      exact ⟨rfl, hk.b⟩
    | true =>
      rw [hs] at cS
      obtain ⟨s1, s2, s3, s4, s5⟩ := sound_of hs
      cases hv : validM k n with
      | false =>
        rw [fits_no hf (fun h => by rw [hv] at h; exact absurd h.2.1 (by simp))]
        rw [hv] at cV
        clear hf hs hv s1
        have HK := hid (K2.first w d s b m k y t l 24 26)
        go_enter Tryz.func44, Tryz.ntmps44
        go_wp2_with fail
        refine (cF _).mono ?_
        rintro e w1 ⟨rfl, hb⟩
        have hk := HK.out.next hb
        clear hb HK
        obtain ⟨⟨x0, x1, x2, x3, _⟩, ⟨y0, y1, y2, y3, _⟩, _⟩ := id hk
        go_wp2_with fail
        refine (cS _).mono ?_
        rintro e w1 ⟨rfl, hb⟩
        have hk := hk.next hb
        clear hb
        obtain ⟨⟨x0, x1, x2, x3, _⟩, ⟨y0, y1, y2, y3, _⟩, _⟩ := id hk
        go_wp2_with fail
        refine (cV _).mono ?_
        rintro e w1 ⟨rfl, q, hq⟩
        have hk := hk.next (show Below _ _ w1 by rw [hq]; exact below_drewN (Below.refl _ _) q)
        clear hq
        obtain ⟨⟨x0, x1, x2, x3, _⟩, ⟨y0, y1, y2, y3, _⟩, _⟩ := id hk
        go_wp2
        go_ret
        exact ⟨rfl, hk.b⟩
      | true =>
        rw [hv] at cV
        by_cases hy : d ≤ y
        · have hyd : decide (d ≤ y) = true := decide_eq_true hy
          rw [fits_no hf (fun h => by omega)]
          clear hf hs hv s1
          have HK := hid (K2.first w d s b m k y t l 24 26)
          go_enter Tryz.func44, Tryz.ntmps44
          go_wp2_with fail
          refine (cF _).mono ?_
          rintro e w1 ⟨rfl, hb⟩
          have hk := HK.out.next hb
          clear hb HK
          obtain ⟨⟨x0, x1, x2, x3, _⟩, ⟨y0, y1, y2, y3, _⟩, _⟩ := id hk
          go_wp2_with fail
          refine (cS _).mono ?_
          rintro e w1 ⟨rfl, hb⟩
          have hk := hk.next hb
          clear hb
          obtain ⟨⟨x0, x1, x2, x3, _⟩, ⟨y0, y1, y2, y3, _⟩, _⟩ := id hk
          go_wp2_with fail
          refine (cV _).mono ?_
          rintro e w1 ⟨rfl, q, hq⟩
          have hk := hk.next (show Below _ _ w1 by rw [hq]; exact below_drewN (Below.refl _ _) q)
          clear hq
          obtain ⟨⟨x0, x1, x2, x3, _⟩, ⟨y0, y1, y2, y3, _⟩, _⟩ := id hk
          go_wp2
          go_ret
          exact ⟨rfl, hk.b⟩
        · have hyd : decide (d ≤ y) = false := decide_eq_false hy
          by_cases he : s < t + l
          · have hed : decide (s < t + l) = true := decide_eq_true he
            rw [fits_no hf (fun h => by omega)]
            clear hf hs hv s1
            have HK := hid (K2.first w d s b m k y t l 24 26)
            go_enter Tryz.func44, Tryz.ntmps44
            go_wp2_with fail
            refine (cF _).mono ?_
            rintro e w1 ⟨rfl, hb⟩
            have hk := HK.out.next hb
            clear hb HK
            obtain ⟨⟨x0, x1, x2, x3, _⟩, ⟨y0, y1, y2, y3, _⟩, _⟩ := id hk
            go_wp2_with fail
            refine (cS _).mono ?_
            rintro e w1 ⟨rfl, hb⟩
            have hk := hk.next hb
            clear hb
            obtain ⟨⟨x0, x1, x2, x3, _⟩, ⟨y0, y1, y2, y3, _⟩, _⟩ := id hk
            go_wp2_with fail
            refine (cV _).mono ?_
            rintro e w1 ⟨rfl, q, hq⟩
            have hk := hk.next (show Below _ _ w1 by rw [hq]; exact below_drewN (Below.refl _ _) q)
            clear hq
            obtain ⟨⟨x0, x1, x2, x3, _⟩, ⟨y0, y1, y2, y3, _⟩, _⟩ := id hk
            go_wp2
            go_ret
            exact ⟨rfl, hk.b⟩
          · have hed : decide (s < t + l) = false := decide_eq_false he
            rw [show fitsM d s b m n k y t l = 0 by unfold fitsM; rw [if_pos hf, if_pos ⟨hs, hv, by omega, by omega⟩]]
            clear hf hs hv s1
            have HK := hid (K2.first w d s b m k y t l 24 26)
            go_enter Tryz.func44, Tryz.ntmps44
            go_wp2_with fail
            refine (cF _).mono ?_
            rintro e w1 ⟨rfl, hb⟩
            have hk := HK.out.next hb
            clear hb HK
            obtain ⟨⟨x0, x1, x2, x3, _⟩, ⟨y0, y1, y2, y3, _⟩, _⟩ := id hk
            go_wp2_with fail
            refine (cS _).mono ?_
            rintro e w1 ⟨rfl, hb⟩
            have hk := hk.next hb
            clear hb
            obtain ⟨⟨x0, x1, x2, x3, _⟩, ⟨y0, y1, y2, y3, _⟩, _⟩ := id hk
            go_wp2_with fail
            refine (cV _).mono ?_
            rintro e w1 ⟨rfl, q, hq⟩
            have hk := hk.next (show Below _ _ w1 by rw [hq]; exact below_drewN (Below.refl _ _) q)
            clear hq
            obtain ⟨⟨x0, x1, x2, x3, _⟩, ⟨y0, y1, y2, y3, _⟩, _⟩ := id hk
            go_wp2
            go_ret
            exact ⟨rfl, hk.b⟩
def RDays (w : World) : Prop := ∀ (j : Nat) (v : Value), dayCells[j]? = some v → w.cell? ⟨1, j, none⟩ = some v
theorem RDays.below {w w' : World} (h : RDays w) {B : Nat} (hb : Below B w w') (hB : 9 < B) : RDays w' :=
  fun j v hj => (hb.cell (p := ⟨1, j, none⟩) (by show 1 < B; omega)).trans (h j v hj)
theorem RDays.at_ {w : World} (h : RDays w) (y : Nat) (hy : y < 7) : w.cell? ⟨1, y, none⟩ = some (.string (ba (dayS y))) := by
  refine h y _ ?_
  rcases (show y = 0 ∨ y = 1 ∨ y = 2 ∨ y = 3 ∨ y = 4 ∨ y = 5 ∨ y = 6 by omega) with rfl | rfl | rfl | rfl | rfl | rfl | rfl <;> rfl
def wdayI (x : Str) : Int := match dayK x with | some k => (k : Int) | none => -1
set_option maxHeartbeats 4000000 in
set_option maxRecDepth 100000 in
theorem weekday_any (s : ByteArray) (w : World) (hsz : 9 < w.heap.size) (hT : RDays w) :
    Calls Tryz.prog 115 #[.string s] w fun e w' => e = .returned (.int .i64 (wdayI (lst s))) ∧ Below w.heap.size w w' := by
  obtain ⟨R, hR⟩ : ∃ R, wdayI (lst s) = R := ⟨_, rfl⟩
  have HR := hid hR
  have HT := hid hT
  rw [hR]
  clear hR hT
  go_enter Tryz.func115, Tryz.ntmps115
  go_wp2
  go_loopw [3] (fun iv wr => ∃ k : Nat, iv = .int .i64 (k : Int) ∧ k ≤ 7 ∧ Hid (∀ i, i < k → dayS i ≠ lst s) ∧ Hid (Below w.heap.size w wr)) (fun iv _ => 7 - (RowKit.intOf iv).toNat)
  case atStart => exact ⟨0, rfl, by omega, hid (fun i hi => absurd hi (by omega)), hid (Below.refl _ _)⟩
  case round =>
    obtain ⟨k, rfl, hk, hne, hB⟩ := hrel
    by_cases hlt : k < 7
    · have hltz : (k : Int) < 7 := by omega
      have hc := (HT.out.below hB.out hsz).at_ k hlt
      obtain ⟨T, hT⟩ : ∃ T, ba (dayS k) = T := ⟨_, rfl⟩
      have HTW : Hid (lst T = dayS k) := hid (by rw [← hT]; rfl)
      rw [hT] at hc
      clear hT
      by_cases hw : lst T = lst s
      · have hr : R = (k : Int) := by
          rw [← HR.out]
          unfold wdayI
          rw [dayK_of hlt (HTW.out.symm.trans hw)]
        subst hr
        have he := toListEq hw
        clear hw HR
        go_wp2
        go_ret
        exact ⟨rfl, hB.out⟩
      · have hnx : Hid (∀ i, i < k + 1 → dayS i ≠ lst s) := hid (fun i hi => by
          rcases Nat.lt_or_ge i k with h | h
          · exact hne.out i h
          · obtain rfl : i = k := by omega
            exact fun e => hw (HTW.out.trans e))
        have he := toListNe hw
        clear hw
        go_wp2
        go_roundw
        case rel => exact ⟨k + 1, by go_num, by omega, hnx, hid hB.out⟩
        case measure => simp [RowKit.intOf]; omega
    · obtain rfl : k = 7 := by omega
      have hr : R = -1 := by
        rw [← HR.out]
        unfold wdayI
        rw [dayK_none hne.out]
      subst hr
      go_wp2
      go_ret
      exact ⟨rfl, hB.out⟩
abbrev TimeD := Int × Int × Int × Int
abbrev RoomD := Str × Str × Int × List Str × List TimeD
def timeVs (t : TimeD) : List Value := [.int .i64 t.1, .int .i64 t.2.1, .int .i64 t.2.2.1, .int .i64 t.2.2.2]
def timeV (t : TimeD) : Value := .agg #[.int .i64 t.1, .int .i64 t.2.1, .int .i64 t.2.2.1, .int .i64 t.2.2.2]
end Go.Proofs.YtnpfmoalgphkcaaGreatDoor
namespace Go.Proofs.YtnpfmoalgphkcaaGreatDoor.S3
open Go Go.Lib
abbrev Str := List UInt8
def dg (c : UInt8) : Bool := decide (48 ≤ c.toNat) && decide (c.toNat ≤ 57)
def runN (d : Bool) : Str → Nat
  | [] => 0
  | c :: r => if dg c = d then runN d r + 1 else 0
def elemN : Str → Nat
  | [] => 0
  | c :: r => runN (dg c) r + 1
end Go.Proofs.YtnpfmoalgphkcaaGreatDoor.S3
