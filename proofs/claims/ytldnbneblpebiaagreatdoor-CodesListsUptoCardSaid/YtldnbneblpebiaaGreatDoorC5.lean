/-
  Natural order: the program's compareNumbers, compareElements. Conditions: the strings fit into memory.
-/
import Derived.Test.YtldnbneblpebiaaGreatDoorC4
import Derived.Test.YtldnbneblpebiaaGreatDoorShelf
set_option linter.unusedVariables false
namespace Go.Proofs.YtldnbneblpebiaaGreatDoor
open Go Go.Proofs Go.RowKit Go.Lib

def orI (a b : Int) : Int := if a = 0 then b else a
set_option maxHeartbeats 2000000 in
theorem or_any (b c : Nat) (x y : Int) (w : World) (h0 : w.cell? ⟨b, 0, none⟩ = some (.int .i64 x)) (h1 : w.cell? ⟨b, 1, none⟩ = some (.int .i64 y)) :
    Calls Tryz.prog 33 #[.slice (some ⟨b, 0, none⟩) 2 c] w fun e w' => e = .returned (.int .i64 (orI x y)) ∧ w = w' := by
  obtain ⟨R, hR⟩ : ∃ R, orI x y = R := ⟨_, rfl⟩
  rw [hR]
  by_cases hx : x = 0
  · have hr : R = y := by rw [← hR]; exact if_pos hx
    have ex : ((x : Int) != 0) = false := by simp [hx]
    have HR := hid hr
    clear hR hr
    by_cases hy : y = 0
    · have ey : ((y : Int) != 0) = false := by simp [hy]
      have HY := hid hy
      subst hx
      clear ex hy
      go_enter Tryz.func33, Tryz.ntmps33
      go_wp2
      go_loop [5, 8] (fun _ i => ∃ k : Nat, (k = 0 ∨ k = 1 ∨ k = 2) ∧ i = .int .i64 (k : Int)) (fun _ i => 2 - (RowKit.intOf i).toNat)
      case atStart => exact ⟨0, .inl rfl, rfl⟩
      case round =>
        obtain ⟨k, hk, rfl⟩ := hrel
        rcases hk with rfl | rfl | rfl
        · go_wp2
          go_round
          case rel => exact ⟨1, .inr (.inl rfl), rfl⟩
          case measure => simp [RowKit.intOf]
        · go_wp2
          go_round
          case rel => exact ⟨2, .inr (.inr rfl), rfl⟩
          case measure => simp [RowKit.intOf]
        · go_wp2
          go_ret
          rw [HR.out, HY.out]
          exact ⟨rfl, rfl⟩
    · have ey : ((y : Int) != 0) = true := by simpa using hy
      subst hx
      clear ex
      go_enter Tryz.func33, Tryz.ntmps33
      go_wp2
      go_loop [5, 8] (fun _ i => ∃ k : Nat, (k = 0 ∨ k = 1) ∧ i = .int .i64 (k : Int)) (fun _ i => 2 - (RowKit.intOf i).toNat)
      case atStart => exact ⟨0, .inl rfl, rfl⟩
      case round =>
        obtain ⟨k, hk, rfl⟩ := hrel
        rcases hk with rfl | rfl
        · go_wp2
          go_round
          case rel => exact ⟨1, .inr rfl, rfl⟩
          case measure => simp [RowKit.intOf]
        · go_wp2
          go_ret
          rw [HR.out]
          exact ⟨rfl, rfl⟩
  · have hr : R = x := by rw [← hR]; exact if_neg hx
    have ex : ((x : Int) != 0) = true := by simpa using hx
    have HR := hid hr
    clear hR hr hx
    go_enter Tryz.func33, Tryz.ntmps33
    go_wp2
    go_loop [5, 8] (fun _ i => i = .int .i64 0) (fun _ i => 2 - (RowKit.intOf i).toNat)
    case atStart => rfl
    case round =>
      obtain rfl := hrel
      go_wp2
      go_ret
      rw [HR.out]
      exact ⟨rfl, rfl⟩

theorem compareInt_eq (x y : Int) : Lib.compareInt x y = cmpI x y := rfl
theorem cmpE_nums' (a b : Str) (ha : numS a = true) (hb : numS b = true) : cmpE a b = orI (cmpI ((bareS a).length : Int) ((bareS b).length : Int)) (compareBytes (bareS a) (bareS b)) := cmpE_nums a b ha hb

set_option maxHeartbeats 2000000 in
set_option maxRecDepth 100000 in
theorem compareNumbers_any (a b : ByteArray) (ha : a.size ≤ 9223372036854775807) (hb : b.size ≤ 9223372036854775807) (w : World) :
    Calls Tryz.prog 53 #[.string a, .string b] w fun e w' => e = .returned (.int .i64 (orI (cmpI ((bareS (lst a)).length : Int) ((bareS (lst b)).length : Int)) (compareBytes (bareS (lst a)) (bareS (lst b))))) ∧ Below w.heap.size w w' := by
  obtain ⟨A, hA⟩ : ∃ A : ByteArray, ⟨(Lib.trimLeftB (lst a) 48).toArray⟩ = A := ⟨_, rfl⟩
  obtain ⟨B, hB⟩ : ∃ B : ByteArray, ⟨(Lib.trimLeftB (lst b) 48).toArray⟩ = B := ⟨_, rfl⟩
  have eA : bareS (lst a) = lst A := by rw [← hA]; rfl
  have eB : bareS (lst b) = lst B := by rw [← hB]; rfl
  have dl : ∀ (l : Str), (bareS l).length ≤ l.length := fun l => (List.dropWhile_sublist _).length_le
  have sA : A.size ≤ 9223372036854775807 := by
    have := dl (lst a)
    rw [eA] at this
    rw [Lib.size_eq] at ha ⊢
    exact Nat.le_trans this ha
  have sB : B.size ≤ 9223372036854775807 := by
    have := dl (lst b)
    rw [eB] at this
    rw [Lib.size_eq] at hb ⊢
    exact Nat.le_trans this hb
  have c1 := Tryz.strings_TrimLeft_one a 48 (by decide)
  have c2 := Tryz.strings_TrimLeft_one b 48 (by decide)
  rw [show (⟨(Lib.trimLeftB a.data.toList 48).toArray⟩ : ByteArray) = A from hA] at c1
  rw [show (⟨(Lib.trimLeftB b.data.toList 48).toArray⟩ : ByteArray) = B from hB] at c2
  rw [eA, eB, show (lst A).length = A.size from (Lib.size_eq A).symm, show (lst B).length = B.size from (Lib.size_eq B).symm]
  clear hA hB eA eB dl
  have c3 := Tryz.cmp_Compare_int (A.size : Int) (B.size : Int)
  rw [compareInt_eq] at c3
  have c4 := Tryz.strings_Compare A B
  generalize cmpI (A.size : Int) (B.size : Int) = x at c3 ⊢
  rw [show compareBytes A.data.toList B.data.toList = compareBytes (lst A) (lst B) from rfl] at c4
  generalize compareBytes (lst A) (lst B) = y at c4 ⊢
  go_enter Tryz.func53, Tryz.ntmps53
  go_wp2_with fail
  refine (c1 _).mono ?_
  rintro e w' ⟨rfl, rfl⟩
  go_wp2_with fail
  refine (c2 _).mono ?_
  rintro e w' ⟨rfl, rfl⟩
  go_wp2_with fail
  refine (c3 _).mono ?_
  rintro e w' ⟨rfl, rfl⟩
  go_wp2_with fail
  refine (c4 _).mono ?_
  rintro e w' ⟨rfl, rfl⟩
  go_wp2_with fail
  refine (or_any _ _ x y _ (by rw [Lib.cell_of_heap (heap_alloc_new _ _)]; rfl) (by rw [Lib.cell_of_heap (heap_alloc_new _ _)]; rfl)).mono ?_
  rintro e w' ⟨rfl, rfl⟩
  go_wp2
  go_ret
  exact ⟨rfl, (Below.refl _ _).alloc (Nat.le_refl _) _⟩

theorem numS_eq (a : ByteArray) (h : 0 < a.size) : numS (lst a) = dg (a[0]'h) := by
  have e : (lst a)[0]? = some (a[0]'h) := by
    have h' := h
    rw [Lib.size_eq] at h'
    rw [List.getElem?_eq_getElem h']
    rfl
  cases hl : lst a with
  | nil => rw [hl] at e; simp at e
  | cons c r =>
    rw [hl] at e
    have : c = a[0]'h := by simpa using e
    rw [← this]
    rfl
set_option maxHeartbeats 2000000 in
set_option maxRecDepth 100000 in
theorem compareElements_any (a b : ByteArray) (ha0 : 0 < a.size) (hb0 : 0 < b.size) (ha : a.size ≤ 9223372036854775807) (hb : b.size ≤ 9223372036854775807) (w : World) :
    Calls Tryz.prog 32 #[.string a, .string b] w fun e w' => e = .returned (.int .i64 (cmpE (lst a) (lst b))) ∧ Below w.heap.size w w' := by
  have na := numS_eq a ha0
  have nb := numS_eq b hb0
  have cA := isDigit_any (a[0]'ha0)
  have cB := isDigit_any (b[0]'hb0)
  obtain ⟨x, hx⟩ : ∃ x, a[0]'ha0 = x := ⟨_, rfl⟩
  obtain ⟨y, hy⟩ : ∃ y, b[0]'hb0 = y := ⟨_, rfl⟩
  rw [hx] at na cA
  rw [hy] at nb cB
  have eT := cmpE_texts (lst a) (lst b)
  have eN := cmpE_nums' (lst a) (lst b)
  have eX := cmpE_num (lst a) (lst b)
  have eY := cmpE_other (lst a) (lst b)
  have cN := compareNumbers_any a b ha hb
  have cS := Tryz.strings_Compare a b
  obtain ⟨R, hR⟩ : ∃ R, cmpE (lst a) (lst b) = R := ⟨_, rfl⟩
  rw [hR] at eT eN eX eY ⊢
  clear hR
  rw [na, nb] at eT eN eX eY
  clear na nb
  cases hdx : dg x <;> cases hdy : dg y <;> rw [hdx] at cA eT eN eX eY <;> rw [hdy] at cB eT eN eX eY <;> clear hdx hdy
  · have hr := hid (eT rfl rfl)
    clear eT eN eX eY cN
    go_enter Tryz.func32, Tryz.ntmps32
    go_wp2
    go_quiet ((first | (go_at_call_of 28 x.toNat; with_reducible refine Calls.quiet_of_same ((cA _).mono fun _ _ h => ⟨h.1, h.2.symm⟩)) | (go_at_call_of 28 y.toNat; with_reducible refine Calls.quiet_of_same ((cB _).mono fun _ _ h => ⟨h.1, h.2.symm⟩))))
    go_wp2_with fail
    refine (cS _).mono ?_
    rintro e w' ⟨rfl, rfl⟩
    go_wp2
    go_ret
    rw [hr.out]
    exact ⟨rfl, below_drewN (Below.refl _ _) _⟩
  · have hr := hid (eY rfl rfl)
    clear eT eN eX eY cN cS
    go_enter Tryz.func32, Tryz.ntmps32
    go_wp2
    go_quiet ((first | (go_at_call_of 28 x.toNat; with_reducible refine Calls.quiet_of_same ((cA _).mono fun _ _ h => ⟨h.1, h.2.symm⟩)) | (go_at_call_of 28 y.toNat; with_reducible refine Calls.quiet_of_same ((cB _).mono fun _ _ h => ⟨h.1, h.2.symm⟩))))
    go_wp2
    go_ret
    rw [hr.out]
    exact ⟨rfl, below_drewN (Below.refl _ _) _⟩
  · have hr := hid (eX rfl rfl)
    clear eT eN eX eY cN cS
    go_enter Tryz.func32, Tryz.ntmps32
    go_wp2
    go_quiet ((first | (go_at_call_of 28 x.toNat; with_reducible refine Calls.quiet_of_same ((cA _).mono fun _ _ h => ⟨h.1, h.2.symm⟩)) | (go_at_call_of 28 y.toNat; with_reducible refine Calls.quiet_of_same ((cB _).mono fun _ _ h => ⟨h.1, h.2.symm⟩))))
    go_wp2
    go_ret
    rw [hr.out]
    exact ⟨rfl, below_drewN (Below.refl _ _) _⟩
  · have hr := hid (eN rfl rfl)
    clear eT eN eX eY cS
    have CN := hid cN
    clear cN
    go_enter Tryz.func32, Tryz.ntmps32
    go_wp2
    go_quiet ((first | (go_at_call_of 28 x.toNat; with_reducible refine Calls.quiet_of_same ((cA _).mono fun _ _ h => ⟨h.1, h.2.symm⟩)) | (go_at_call_of 28 y.toNat; with_reducible refine Calls.quiet_of_same ((cB _).mono fun _ _ h => ⟨h.1, h.2.symm⟩))))
    go_wp2_with fail
    refine (CN.out _).mono ?_
    rintro e w' ⟨rfl, hbw⟩
    have HB := hid (Below.trans (below_drewN (Below.refl w.heap.size w) nq) (hbw.mono (Nat.le_refl _)))
    clear hbw
    go_wp2
    go_ret
    rw [hr.out]
    exact ⟨rfl, HB.out⟩
end Go.Proofs.YtldnbneblpebiaaGreatDoor
