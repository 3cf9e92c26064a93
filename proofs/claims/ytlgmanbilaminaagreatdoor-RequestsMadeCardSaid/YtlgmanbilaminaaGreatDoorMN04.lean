/-
  Natural order: the program's compareNumbers, compareElements. Conditions: the strings fit into memory. Natural order: the program's Compare. Conditions: the .. Conditions: as stated.
-/
import Derived.Test.YtlgmanbilaminaaGreatDoorMN02
import Derived.Test.YtlgmanbilaminaaGreatDoorMN03
import Derived.Shelf.Strings.SlTrimAscii
import Derived.Handy
set_option linter.unusedVariables false
namespace Go.Proofs.YtlgmanbilaminaaGreatDoor.S3
open Go Go.Proofs Go.RowKit Go.Lib
def orI (a b : Int) : Int := if a = 0 then b else a
set_option maxHeartbeats 2000000 in
theorem or_any (b c : Nat) (x y : Int) (w : World) (h0 : w.cell? ⟨b, 0, none⟩ = some (.int .i64 x)) (h1 : w.cell? ⟨b, 1, none⟩ = some (.int .i64 y)) :
    Calls Tryz.prog 80 #[.slice (some ⟨b, 0, none⟩) 2 c] w fun e w' => e = .returned (.int .i64 (orI x y)) ∧ w = w' := by
  obtain ⟨R, hR⟩ : ∃ R, orI x y = R := ⟨_, rfl⟩
  rw [hR]
  by_cases hx : x = 0
  · have hr : R = y := by rw [← hR]; exact if_pos hx
    have ex : ((x : Int) != 0) = false := by simp [hx]
    have HR := hid hr
    clear hR hr
    by_cases hy : y = 0
    · have ey : ((y : Int) != 0) = false := by simp [hy]
      have HY := hid hy
      subst hx
      clear ex hy
      go_enter Tryz.func80, Tryz.ntmps80
      go_wp2
      go_loop [5, 8] (fun _ i => ∃ k : Nat, (k = 0 ∨ k = 1 ∨ k = 2) ∧ i = .int .i64 (k : Int)) (fun _ i => 2 - (RowKit.intOf i).toNat)
      case atStart => exact ⟨0, .inl rfl, rfl⟩
      case round =>
        obtain ⟨k, hk, rfl⟩ := hrel
        rcases hk with rfl | rfl | rfl
        · go_wp2
          go_round
          case rel => exact ⟨1, .inr (.inl rfl), rfl⟩
          case measure => simp [RowKit.intOf]
        · go_wp2
          go_round
          case rel => exact ⟨2, .inr (.inr rfl), rfl⟩
          case measure => simp [RowKit.intOf]
        · go_wp2
          go_ret
          rw [HR.out, HY.out]
          exact ⟨rfl, rfl⟩
    · have ey : ((y : Int) != 0) = true := by simpa using hy
      subst hx
      clear ex
      go_enter Tryz.func80, Tryz.ntmps80
      go_wp2
      go_loop [5, 8] (fun _ i => ∃ k : Nat, (k = 0 ∨ k = 1) ∧ i = .int .i64 (k : Int)) (fun _ i => 2 - (RowKit.intOf i).toNat)
      case atStart => exact ⟨0, .inl rfl, rfl⟩
      case round =>
        obtain ⟨k, hk, rfl⟩ := hrel
        rcases hk with rfl | rfl
        · go_wp2
          go_round
          case rel => exact ⟨1, .inr rfl, rfl⟩
          case measure => simp [RowKit.intOf]
        · go_wp2
          go_ret
          rw [HR.out]
          exact ⟨rfl, rfl⟩
  · have hr : R = x := by rw [← hR]; exact if_neg hx
    have ex : ((x : Int) != 0) = true := by simpa using hx
    have HR := hid hr
    clear hR hr hx
    go_enter Tryz.func80, Tryz.ntmps80
    go_wp2
    go_loop [5, 8] (fun _ i => i = .int .i64 0) (fun _ i => 2 - (RowKit.intOf i).toNat)
    case atStart => rfl
    case round =>
      obtain rfl := hrel
      go_wp2
      go_ret
      rw [HR.out]
      exact ⟨rfl, rfl⟩
theorem compareInt_eq (x y : Int) : Lib.compareInt x y = cmpI x y := rfl
theorem cmpE_nums' (a b : Str) (ha : numS a = true) (hb : numS b = true) : cmpE a b = orI (cmpI ((bareS a).length : Int) ((bareS b).length : Int)) (compareBytes (bareS a) (bareS b)) := cmpE_nums a b ha hb
set_option maxHeartbeats 2000000 in
set_option maxRecDepth 100000 in
theorem compareNumbers_any (a b : ByteArray) (ha : a.size ≤ 9223372036854775807) (hb : b.size ≤ 9223372036854775807) (w : World) :
    Calls Tryz.prog 115 #[.string a, .string b] w fun e w' => e = .returned (.int .i64 (orI (cmpI ((bareS (lst a)).length : Int) ((bareS (lst b)).length : Int)) (compareBytes (bareS (lst a)) (bareS (lst b))))) ∧ Below w.heap.size w w' := by
  obtain ⟨A, hA⟩ : ∃ A : ByteArray, ⟨(Lib.trimLeftB (lst a) 48).toArray⟩ = A := ⟨_, rfl⟩
  obtain ⟨B, hB⟩ : ∃ B : ByteArray, ⟨(Lib.trimLeftB (lst b) 48).toArray⟩ = B := ⟨_, rfl⟩
  have eA : bareS (lst a) = lst A := by rw [← hA]; rfl
  have eB : bareS (lst b) = lst B := by rw [← hB]; rfl
  have dl : ∀ (l : Str), (bareS l).length ≤ l.length := fun l => (List.dropWhile_sublist _).length_le
  have sA : A.size ≤ 9223372036854775807 := by
    have := dl (lst a)
    rw [eA] at this
    rw [Lib.size_eq] at ha ⊢
    exact Nat.le_trans this ha
  have sB : B.size ≤ 9223372036854775807 := by
    have := dl (lst b)
    rw [eB] at this
    rw [Lib.size_eq] at hb ⊢
    exact Nat.le_trans this hb
  have c1 := Tryz.strings_TrimLeft_one a 48 (by decide)
  have c2 := Tryz.strings_TrimLeft_one b 48 (by decide)
  rw [show (⟨(Lib.trimLeftB a.data.toList 48).toArray⟩ : ByteArray) = A from hA] at c1
  rw [show (⟨(Lib.trimLeftB b.data.toList 48).toArray⟩ : ByteArray) = B from hB] at c2
  rw [eA, eB, show (lst A).length = A.size from (Lib.size_eq A).symm, show (lst B).length = B.size from (Lib.size_eq B).symm]
  clear hA hB eA eB dl
  have c3 := Tryz.cmp_Compare_int (A.size : Int) (B.size : Int)
  rw [compareInt_eq] at c3
  have c4 := Tryz.strings_Compare A B
  generalize cmpI (A.size : Int) (B.size : Int) = x at c3 ⊢
  rw [show compareBytes A.data.toList B.data.toList = compareBytes (lst A) (lst B) from rfl] at c4
  generalize compareBytes (lst A) (lst B) = y at c4 ⊢
  go_enter Tryz.func115, Tryz.ntmps115
  go_wp2_with fail
  refine (c1 _).mono ?_
  rintro e w' ⟨rfl, rfl⟩
  go_wp2_with fail
  refine (c2 _).mono ?_
  rintro e w' ⟨rfl, rfl⟩
  go_wp2_with fail
  refine (c3 _).mono ?_
  rintro e w' ⟨rfl, rfl⟩
  go_wp2_with fail
  refine (c4 _).mono ?_
  rintro e w' ⟨rfl, rfl⟩
  go_wp2_with fail
  refine (or_any _ _ x y _ (by rw [Lib.cell_of_heap (heap_alloc_new _ _)]; rfl) (by rw [Lib.cell_of_heap (heap_alloc_new _ _)]; rfl)).mono ?_
  rintro e w' ⟨rfl, rfl⟩
  go_wp2
  go_ret
  exact ⟨rfl, (Below.refl _ _).alloc (Nat.le_refl _) _⟩
theorem numS_eq (a : ByteArray) (h : 0 < a.size) : numS (lst a) = dg (a[0]'h) := by
  have e : (lst a)[0]? = some (a[0]'h) := by
    have h' := h
    rw [Lib.size_eq] at h'
    rw [List.getElem?_eq_getElem h']
    rfl
  cases hl : lst a with
  | nil => rw [hl] at e; simp at e
  | cons c r =>
    rw [hl] at e
    have : c = a[0]'h := by simpa using e
    rw [← this]
    rfl
set_option maxHeartbeats 2000000 in
set_option maxRecDepth 100000 in
theorem compareElements_any (a b : ByteArray) (ha0 : 0 < a.size) (hb0 : 0 < b.size) (ha : a.size ≤ 9223372036854775807) (hb : b.size ≤ 9223372036854775807) (w : World) :
    Calls Tryz.prog 79 #[.string a, .string b] w fun e w' => e = .returned (.int .i64 (cmpE (lst a) (lst b))) ∧ Below w.heap.size w w' := by
  have na := numS_eq a ha0
  have nb := numS_eq b hb0
  have cA := isDigit_any (a[0]'ha0)
  have cB := isDigit_any (b[0]'hb0)
  obtain ⟨x, hx⟩ : ∃ x, a[0]'ha0 = x := ⟨_, rfl⟩
  obtain ⟨y, hy⟩ : ∃ y, b[0]'hb0 = y := ⟨_, rfl⟩
  rw [hx] at na cA
  rw [hy] at nb cB
  have eT := cmpE_texts (lst a) (lst b)
  have eN := cmpE_nums' (lst a) (lst b)
  have eX := cmpE_num (lst a) (lst b)
  have eY := cmpE_other (lst a) (lst b)
  have cN := compareNumbers_any a b ha hb
  have cS := Tryz.strings_Compare a b
  obtain ⟨R, hR⟩ : ∃ R, cmpE (lst a) (lst b) = R := ⟨_, rfl⟩
  rw [hR] at eT eN eX eY ⊢
  clear hR
  rw [na, nb] at eT eN eX eY
  clear na nb
  cases hdx : dg x <;> cases hdy : dg y <;> rw [hdx] at cA eT eN eX eY <;> rw [hdy] at cB eT eN eX eY <;> clear hdx hdy
  · have hr := hid (eT rfl rfl)
    clear eT eN eX eY cN
    go_enter Tryz.func79, Tryz.ntmps79
    go_wp2
    go_quiet ((first | (go_at_call_of 99 x.toNat; with_reducible refine Calls.quiet_of_same ((cA _).mono fun _ _ h => ⟨h.1, h.2.symm⟩)) | (go_at_call_of 99 y.toNat; with_reducible refine Calls.quiet_of_same ((cB _).mono fun _ _ h => ⟨h.1, h.2.symm⟩))))
    go_wp2_with fail
    refine (cS _).mono ?_
    rintro e w' ⟨rfl, rfl⟩
    go_wp2
    go_ret
    rw [hr.out]
    exact ⟨rfl, below_drewN (Below.refl _ _) _⟩
  · have hr := hid (eY rfl rfl)
    clear eT eN eX eY cN cS
    go_enter Tryz.func79, Tryz.ntmps79
    go_wp2
    go_quiet ((first | (go_at_call_of 99 x.toNat; with_reducible refine Calls.quiet_of_same ((cA _).mono fun _ _ h => ⟨h.1, h.2.symm⟩)) | (go_at_call_of 99 y.toNat; with_reducible refine Calls.quiet_of_same ((cB _).mono fun _ _ h => ⟨h.1, h.2.symm⟩))))
    go_wp2
    go_ret
    rw [hr.out]
    exact ⟨rfl, below_drewN (Below.refl _ _) _⟩
  · have hr := hid (eX rfl rfl)
    clear eT eN eX eY cN cS
    go_enter Tryz.func79, Tryz.ntmps79
    go_wp2
    go_quiet ((first | (go_at_call_of 99 x.toNat; with_reducible refine Calls.quiet_of_same ((cA _).mono fun _ _ h => ⟨h.1, h.2.symm⟩)) | (go_at_call_of 99 y.toNat; with_reducible refine Calls.quiet_of_same ((cB _).mono fun _ _ h => ⟨h.1, h.2.symm⟩))))
    go_wp2
    go_ret
    rw [hr.out]
    exact ⟨rfl, below_drewN (Below.refl _ _) _⟩
  · have hr := hid (eN rfl rfl)
    clear eT eN eX eY cS
    have CN := hid cN
    clear cN
    go_enter Tryz.func79, Tryz.ntmps79
    go_wp2
    go_quiet ((first | (go_at_call_of 99 x.toNat; with_reducible refine Calls.quiet_of_same ((cA _).mono fun _ _ h => ⟨h.1, h.2.symm⟩)) | (go_at_call_of 99 y.toNat; with_reducible refine Calls.quiet_of_same ((cB _).mono fun _ _ h => ⟨h.1, h.2.symm⟩))))
    go_wp2_with fail
    refine (CN.out _).mono ?_
    rintro e w' ⟨rfl, hbw⟩
    have HB := hid (Below.trans (below_drewN (Below.refl w.heap.size w) nq) (hbw.mono (Nat.le_refl _)))
    clear hbw
    go_wp2
    go_ret
    rw [hr.out]
    exact ⟨rfl, HB.out⟩
theorem str_no {s : ByteArray} (h : 0 < s.size) : (s.toList == []) = false ∧ (!s.toList.isEmpty) = true ∧ (s.toList != []) = true ∧ ¬ s.toList = [] := by
  have hne : s.toList ≠ [] := fun e => by
    rw [Lib.toList_data] at e
    rw [Lib.size_eq, e] at h
    simp at h
  refine ⟨by simpa using hne, by simpa using hne, by simpa using hne, hne⟩
theorem str_yes {s : ByteArray} (h : ¬ 0 < s.size) : (s.toList == []) = true ∧ (!s.toList.isEmpty) = false ∧ (s.toList != []) = false ∧ s.toList = [] := by
  have e : s.toList = [] := by
    rw [Lib.toList_data]
    exact List.eq_nil_of_length_eq_zero (by rw [← Lib.size_eq]; omega)
  refine ⟨by simpa using e, by simp [e], by simp [e], e⟩
theorem lst_ne {s : ByteArray} (h : 0 < s.size) : lst s ≠ [] := fun e => by
  have h' : 0 < (lst s).length := by rw [← Lib.size_eq]; exact h
  rw [e] at h'
  simp at h'
theorem lst_nil {s : ByteArray} (h : ¬ 0 < s.size) : lst s = [] := List.eq_nil_of_length_eq_zero (by rw [← Lib.size_eq]; omega)
theorem lex_end (X Y : ByteArray) (h : ¬ 0 < X.size ∨ ¬ 0 < Y.size) : lexC cmpE (elems (lst X)) (elems (lst Y)) = cmpI (X.size : Int) (Y.size : Int) := by
  by_cases hx : 0 < X.size
  · have hy : ¬ 0 < Y.size := h.resolve_left (fun e => e hx)
    rw [lst_nil hy, elems_cons _ (lst_ne hx)]
    unfold cmpI
    rw [if_neg (by omega), if_pos (by omega)]
    rfl
  · rw [lst_nil hx]
    by_cases hy : 0 < Y.size
    · rw [elems_cons _ (lst_ne hy)]
      unfold cmpI
      rw [if_pos (by omega)]
      rfl
    · rw [lst_nil hy]
      unfold cmpI
      rw [if_neg (by omega), if_neg (by omega)]
      rfl
theorem lex_step (X Y : Str) (hx : X ≠ []) (hy : Y ≠ []) : lexC cmpE (elems X) (elems Y) = if cmpE (X.take (elemN X)) (Y.take (elemN Y)) = 0 then lexC cmpE (elems (X.drop (elemN X))) (elems (Y.drop (elemN Y))) else cmpE (X.take (elemN X)) (Y.take (elemN Y)) := by
  rw [elems_cons X hx, elems_cons Y hy]
  rfl
theorem cmpM_or (a b : Str) : cmpM a b = orI (lexC cmpE (elems a) (elems b)) (compareBytes a b) := rfl
def strSize : Value → Nat
  | .string s => s.size
  | _ => 0
set_option maxHeartbeats 4000000 in
set_option maxRecDepth 100000 in
theorem compare_any (a b : ByteArray) (ha : a.size ≤ 9223372036854775807) (hb : b.size ≤ 9223372036854775807) (w : World) :
    Calls Tryz.prog 48 #[.string a, .string b] w fun e w' => e = .returned (.int .i64 (cmpM (lst a) (lst b))) ∧ Below w.heap.size w w' := by
  rw [cmpM_or]
  obtain ⟨LX, hLX⟩ : ∃ x, lexC cmpE (elems (lst a)) (elems (lst b)) = x := ⟨_, rfl⟩
  have cS := Tryz.strings_Compare a b
  rw [show compareBytes a.data.toList b.data.toList = compareBytes (lst a) (lst b) from rfl] at cS
  obtain ⟨y, hy⟩ : ∃ y, compareBytes (lst a) (lst b) = y := ⟨_, rfl⟩
  rw [hy] at cS ⊢
  rw [hLX]
  have HLX := hid hLX
  clear hLX hy
  go_enter Tryz.func48, Tryz.ntmps48
  go_wp2
  go_loopw [5, 6, 7, 8, 9] (fun xv yv _ _ _ wr => ∃ X Y : ByteArray, xv = .string X ∧ yv = .string Y ∧ X.size ≤ a.size ∧ Y.size ≤ b.size ∧ Hid (LX = lexC cmpE (elems (lst X)) (elems (lst Y))) ∧ Hid (Below w.heap.size w wr)) (fun xv _ _ _ _ _ => strSize xv)
  case atStart => exact ⟨a, b, rfl, rfl, Nat.le_refl _, Nat.le_refl _, hid HLX.out.symm, hid (Below.refl _ _)⟩
  case round =>
    obtain ⟨X, Y, rfl, rfl, hXs, hYs, hE, hB⟩ := hrel
    by_cases hx : 0 < X.size
    · by_cases hy : 0 < Y.size
      · have cX := cutElement_any X hx (by omega) wr
        have CX := hid cX
        have CY := hid (fun w => cutElement_any Y hy (by omega) w)
        have hst := hid (lex_step (lst X) (lst Y) (lst_ne hx) (lst_ne hy))
        have pX := elemN_pos _ (lst_ne hx)
        have pY := elemN_pos _ (lst_ne hy)
        have lX := elemN_le (lst X)
        have lY := elemN_le (lst Y)
        rw [show (lst X).length = X.size from (Lib.size_eq X).symm] at lX
        rw [show (lst Y).length = Y.size from (Lib.size_eq Y).symm] at lY
        obtain ⟨x1, x2, x3, _⟩ := str_no hx
        obtain ⟨y1, y2, y3, _⟩ := str_no hy
        clear cX
        go_wp2_with fail
        refine CX.out.mono ?_
        rintro e w1 ⟨⟨P, X', rfl, hP, hX'⟩, hb1⟩
        have sP : P.size = elemN (lst X) := by rw [Lib.size_eq, show P.data.toList = _ from hP, List.length_take, show (lst X).length = X.size from (Lib.size_eq X).symm]; omega
        have sX' : X'.size = X.size - elemN (lst X) := by rw [Lib.size_eq, show X'.data.toList = _ from hX', List.length_drop, show (lst X).length = X.size from (Lib.size_eq X).symm]
        have HP := hid hP
        have HX' := hid hX'
        have HB1 := hid (hB.out.trans (hb1.mono hB.out.size))
        have hP0 : 0 < P.size := by omega
        have hPs : P.size ≤ 9223372036854775807 := by omega
        have hXl : X'.size < X.size := by omega
        clear hP hX' hb1 hB x1 x2 x3 y1 y2 y3
        go_wp2_with fail
        refine (CY.out _).mono ?_
        rintro e w2 ⟨⟨Q, Y', rfl, hQ, hY'⟩, hb2⟩
        have sQ : Q.size = elemN (lst Y) := by rw [Lib.size_eq, show Q.data.toList = _ from hQ, List.length_take, show (lst Y).length = Y.size from (Lib.size_eq Y).symm]; omega
        have sY' : Y'.size = Y.size - elemN (lst Y) := by rw [Lib.size_eq, show Y'.data.toList = _ from hY', List.length_drop, show (lst Y).length = Y.size from (Lib.size_eq Y).symm]
        have HQ := hid hQ
        have HY' := hid hY'
        have HB2 := hid (HB1.out.trans (hb2.mono HB1.out.size))
        have hQ0 : 0 < Q.size := by omega
        have hQs : Q.size ≤ 9223372036854775807 := by omega
        have hYl : Y'.size < Y.size := by omega
        clear hQ hY' hb2 sP sX' sQ sY' HB1
        go_wp2_with fail
        refine (compareElements_any P Q hP0 hQ0 hPs hQs _).mono ?_
        rintro e w3 ⟨rfl, hb3⟩
        have HB3 := hid (HB2.out.trans (hb3.mono HB2.out.size))
        clear hb3 HB2
        have hc : Hid (LX = if cmpE (lst P) (lst Q) = 0 then lexC cmpE (elems (lst X')) (elems (lst Y')) else cmpE (lst P) (lst Q)) := hid (by rw [hE.out, hst.out, HP.out, HQ.out, HX'.out, HY'.out])
        generalize cmpE (lst P) (lst Q) = c at hc ⊢
        by_cases h0 : c = 0
        · have hz : ((c : Int) != 0) = false := by simp [h0]
          have hn : Hid (LX = lexC cmpE (elems (lst X')) (elems (lst Y'))) := hid (by rw [hc.out, if_pos h0])
          clear h0 hc
          go_wp2
          go_roundw
          case rel => exact ⟨X', Y', rfl, rfl, by omega, by omega, hn, HB3⟩
          case measure => exact hXl
        · have hz : ((c : Int) != 0) = true := by simpa using h0
          have hn : Hid (orI LX y = c) := hid (by rw [hc.out, if_neg h0]; exact if_neg h0)
          clear h0 hc
          go_wp2
          go_ret
          rw [hn.out]
          exact ⟨rfl, HB3.out⟩
      · have hl := hid (lex_end X Y (.inr hy))
        obtain ⟨x1, x2, x3, _⟩ := str_no hx
        obtain ⟨y1, y2, y3, _⟩ := str_yes hy
        have cI := Tryz.cmp_Compare_int (X.size : Int) (Y.size : Int)
        rw [compareInt_eq] at cI
        have hn : Hid (LX = cmpI (X.size : Int) (Y.size : Int)) := hid (by rw [hE.out, hl.out])
        generalize cmpI (X.size : Int) (Y.size : Int) = x at cI hn
        clear hl hE
        go_wp2_with fail
        refine (cI _).mono ?_
        rintro e w' ⟨rfl, rfl⟩
        go_wp2_with fail
        refine (cS _).mono ?_
        rintro e w' ⟨rfl, rfl⟩
        go_wp2_with fail
        refine (or_any _ _ x y _ (by rw [Lib.cell_of_heap (heap_alloc_new _ _)]; rfl) (by rw [Lib.cell_of_heap (heap_alloc_new _ _)]; rfl)).mono ?_
        rintro e w' ⟨rfl, rfl⟩
        go_wp2
        go_ret
        rw [hn.out]
        exact ⟨rfl, hB.out.alloc hB.out.size _⟩
    · have hl := hid (lex_end X Y (.inl hx))
      obtain ⟨x1, x2, x3, _⟩ := str_yes hx
      have cI := Tryz.cmp_Compare_int (X.size : Int) (Y.size : Int)
      rw [compareInt_eq] at cI
      have hn : Hid (LX = cmpI (X.size : Int) (Y.size : Int)) := hid (by rw [hE.out, hl.out])
      generalize cmpI (X.size : Int) (Y.size : Int) = x at cI hn
      clear hl hE
      go_wp2_with fail
      refine (cI _).mono ?_
      rintro e w' ⟨rfl, rfl⟩
      go_wp2_with fail
      refine (cS _).mono ?_
      rintro e w' ⟨rfl, rfl⟩
      go_wp2_with fail
      refine (or_any _ _ x y _ (by rw [Lib.cell_of_heap (heap_alloc_new _ _)]; rfl) (by rw [Lib.cell_of_heap (heap_alloc_new _ _)]; rfl)).mono ?_
      rintro e w' ⟨rfl, rfl⟩
      go_wp2
      go_ret
      rw [hn.out]
      exact ⟨rfl, hB.out.alloc hB.out.size _⟩
structure Env (w : World) : Prop where
  m : ∃ m, w.cell? ⟨1, 0, none⟩ = some (.int .i64 m)
  ev : ∃ ev, w.cell? ⟨5, 0, none⟩ = some ev ∧ (ev = .nilIface ∨ ∃ te pe, ev = .iface te pe)
  tab : Lib.TabIs Tryz.prog w "internal/strconv.uint64pow10" .u64 Lib.pow10Tab
  size : 5 < w.heap.size
theorem gTab : Tryz.prog.globalNamed "internal/strconv.uint64pow10" = some 2 := by kernel_rfl
theorem var_below {B g : Nat} {W W' : World} {n : String} {cs : Array Value} (h : Below B W W') (hg : Tryz.prog.globalNamed n = some g) (hgB : g < B) (hv : W.var? Tryz.prog n = some cs) : W'.var? Tryz.prog n = some cs := by
  unfold World.var? at hv ⊢
  simp only [hg, Option.bind_some] at hv ⊢
  rw [h.block g hgB]
  exact hv
theorem var_lt {g : Nat} {W : World} {n : String} {cs : Array Value} (hg : Tryz.prog.globalNamed n = some g) (hv : W.var? Tryz.prog n = some cs) : g < W.heap.size := by
  unfold World.var? at hv
  simp only [hg, Option.bind_some] at hv
  by_cases h : g < W.heap.size
  · exact h
  · rw [Array.getElem?_eq_none (by omega)] at hv
    simp at hv
theorem Env.below {w w' : World} (h : Env w) (hb : Below w.heap.size w w') : Env w' := by
  obtain ⟨m, hm⟩ := h.m
  obtain ⟨ev, he, hk⟩ := h.ev
  have hs := h.size
  exact ⟨⟨m, (hb.cell (p := ⟨1, 0, none⟩) (by show 1 < w.heap.size; omega)).trans hm⟩, ⟨ev, (hb.cell (p := ⟨5, 0, none⟩) (by show 5 < w.heap.size; omega)).trans he, hk⟩,
    var_below hb gTab (var_lt gTab h.tab) h.tab, Nat.le_trans hs hb.size⟩
theorem trimR_any (s : ByteArray) (hs : s.size ≤ 9223372036854775807) (w : World) :
    Calls Tryz.prog 150 #[.string s, .string ⟨#[48, 49, 50, 51, 52, 53, 54, 55, 56, 57]⟩] w fun e w' => e = .returned (.string ⟨(preS (lst s)).toArray⟩) ∧ Below w.heap.size w w' := by
  have h := Any.strings_TrimRight_laid Tryz.lays162 (by kernel_rfl) s ⟨#[48, 49, 50, 51, 52, 53, 54, 55, 56, 57]⟩ w hs (by decide) (fun j b hb => by
    have := List.mem_of_getElem? hb
    simp at this
    rcases this with rfl | rfl | rfl | rfl | rfl | rfl | rfl | rfl | rfl | rfl <;> decide)
  rw [show (⟨#[48, 49, 50, 51, 52, 53, 54, 55, 56, 57]⟩ : ByteArray).data.toList = [48, 49, 50, 51, 52, 53, 54, 55, 56, 57] from rfl, trim_pre] at h
  exact h
theorem results_ct {fn : Func} {p u : Tmp} {A : TypeId} (h : fn.results = #[.cell p A, .tmp u]) (tmps : Array Value) (P : Program) (w : World) (a : Addr) (va vc : Value)
    (ha : tmps.getD p undef = .pointer (some a)) (hc : tmps.getD u undef = vc)
    (hla : (loadVar A a).run P w = .ok va w) : (results fn tmps).run P w = .ok (.tuple #[va, vc]) w := by
  rw [Array.getD_eq_getD_getElem?] at ha hc
  simp only [results, h]
  simp [Result.andThen, ha, hc, hla, asAddr]
theorem loadNumb {w : World} {k : Nat} {x y z : Value} (h0 : w.cell? ⟨k, 0, none⟩ = some x) (h1 : w.cell? ⟨k, 1, none⟩ = some y) (h2 : w.cell? ⟨k, 2, none⟩ = some z) : (loadVar 158 ⟨k, 0, none⟩).run Tryz.prog w = .ok (.agg #[x, y, z]) w := by
  simp [loadVar, go_sem, h0, h1, h2]
theorem lst_from (s : ByteArray) (P : ByteArray) (hP : lst P = preS (lst s)) : lst (s.extract P.size s.size) = lastS (lst s) := by
  rw [lst_extract, List.take_of_length_le (by rw [← Lib.size_eq]; exact Nat.le_refl _)]
  unfold lastS
  rw [← hP, show P.size = (lst P).length from Lib.size_eq P]
def numL (s : Str) : Nat := numN (lastS s)
def divV (P : ByteArray) (s : Str) : Value := .agg #[.string P, .int .i64 (numL s : Int), .int .i64 ((lastS s).length : Int)]
def hasL (s : Str) : Bool := !(lastS s).isEmpty
def DivOut (s : Str) (w : World) (e : Ending) (w' : World) : Prop := (∃ P : ByteArray, e = .returned (.tuple #[divV P s, .bool (hasL s)]) ∧ lst P = preS s) ∧ Below w.heap.size w w'
theorem three_set {w : World} {k : Nat} {a b c : Value} {T : TypeId} (h : w.heap[k]? = some (.cells #[a, b, c] T (0, 0))) (x y z : Value) :
    (((w.setCell ⟨k, 0, none⟩ x).setCell ⟨k, 1, none⟩ y).setCell ⟨k, 2, none⟩ z).heap[k]? = some (.cells #[x, y, z] T (0, 0)) := by
  have h1 := heap_setCell_same w k 0 _ _ x h
  have h2 := heap_setCell_same _ k 1 _ _ y h1
  have h3 := heap_setCell_same _ k 2 _ _ z h2
  rw [h3]
  rfl
theorem div_end {s : Str} {w W : World} {P : ByteArray} {a : Act} {ok : Bool} {n wd : Int} (ha : a.tmps.getD 2 undef = .pointer (some ⟨w.heap.size, 0, none⟩)) (hc : a.tmps.getD 3 undef = .bool ok) (hd : a.defers = [])
    (hz : W.heap[w.heap.size]? = some (.cells #[.string P, .int .i64 n, .int .i64 wd] 158 (0, 0))) (hv : divV P s = .agg #[.string P, .int .i64 n, .int .i64 wd]) (hb : hasL s = ok) (hP : lst P = preS s) (hB : Below w.heap.size w W) :
    bodyPost Tryz.prog Tryz.f126 (DivOut s w) Exit.ret a W := by
  refine bodyPost_ret (v := .tuple #[divV P s, .bool (hasL s)]) (results_ct rfl _ _ _ ⟨w.heap.size, 0, none⟩ _ _ ha (by rw [hb]; exact hc) ?_) hd ⟨⟨P, rfl, hP⟩, hB⟩
  rw [hv]
  exact loadNumb (by rw [Lib.cell_of_heap hz]; rfl) (by rw [Lib.cell_of_heap hz]; rfl) (by rw [Lib.cell_of_heap hz]; rfl)
set_option maxHeartbeats 4000000 in
set_option maxRecDepth 100000 in
theorem divide_any (s : ByteArray) (hs : s.size ≤ 16) (w : World) (hE : Env w) : Calls Tryz.prog 126 #[.string s] w (DivOut (lst s) w) := by
  have hsl : (lst s).length ≤ 16 := by rw [← Lib.size_eq]; exact hs
  obtain ⟨P, hP0⟩ : ∃ P : ByteArray, (⟨(preS (lst s)).toArray⟩ : ByteArray) = P := ⟨_, rfl⟩
  have hP : lst P = preS (lst s) := by rw [← hP0]
  have cT := trimR_any s (by omega)
  rw [hP0] at cT
  have hsp := pre_split (lst s)
  have hpl : (preS (lst s)).length ≤ (lst s).length := by
    have := congrArg List.length hsp
    rw [List.length_append] at this
    omega
  have hPs : P.size ≤ s.size := by rw [show P.size = (lst P).length from Lib.size_eq P, hP, show s.size = (lst s).length from Lib.size_eq s]; exact hpl
  have hX := lst_from s P hP
  obtain ⟨X, hXd⟩ : ∃ X, s.extract P.size s.size = X := ⟨_, rfl⟩
  rw [hXd] at hX
  have hXs : X.size ≤ 16 := by rw [← hXd, ByteArray.size_extract]; omega
  have hXl : X.size = (lastS (lst s)).length := by rw [← hX]; exact Lib.size_eq X
  have hPz : (P.size : Int) ≤ (s.size : Int) := by omega
  have hdg := last_dgs (lst s)
  have HP := hid hP
  have HX := hid hX
  have HXL := hid hXl
  have HE := hid hE
  have hsub : ∀ w : World, Below w.heap.size w (w.alloc (.cells #[.string ⟨#[]⟩, .int .i64 0, .int .i64 0] 158)) := fun w => (Below.refl _ w).alloc (Nat.le_refl _) _
  have HS := hid hsub
  clear hP0 hP hsp hpl hX hXl hE hsub hsl
  by_cases h0 : lastS (lst s) = []
  · have hn : Hid (divV P (lst s) = .agg #[.string P, .int .i64 0, .int .i64 (X.size : Int)]) := hid (by unfold divV numL; rw [HXL.out, h0]; rfl)
    have hb : Hid (hasL (lst s) = false) := hid (by unfold hasL; rw [h0]; rfl)
    have ha : Lib.atoi (lst X) = none := by rw [HX.out, h0]; rfl
    obtain ⟨ev, hev, hev2⟩ := HE.out.ev
    have HEV := hid hev
    have hsz := HE.out.size
    clear h0 hdg hev
    go_enter Tryz.func126, Tryz.ntmps126
    go_wp2_with fail
    have HB0 := HS.out w
    have hz0 : (w.alloc (.cells #[.string ⟨#[]⟩, .int .i64 0, .int .i64 0] 158)).heap[w.heap.size]? = some (.cells #[.string ⟨#[]⟩, .int .i64 0, .int .i64 0] 158 (0, 0)) := heap_alloc_new w _
    have hzs : w.heap.size < (w.alloc (.cells #[.string ⟨#[]⟩, .int .i64 0, .int .i64 0] 158)).heap.size := by simp
    have HB0' := hid HB0
    have HZ0 := hid hz0
    clear HB0 hz0
    generalize w.alloc (.cells #[.string ⟨#[]⟩, .int .i64 0, .int .i64 0] 158) = w1 at HB0' HZ0 hzs ⊢
    refine (cT _).mono ?_
    rintro e w2 ⟨rfl, hb2⟩
    have HZ2 := hid ((hb2.block _ hzs).trans HZ0.out)
    have HB2 := hid (HB0'.out.trans (hb2.mono HB0'.out.size))
    have hzs2 : w.heap.size < w2.heap.size := Nat.lt_of_lt_of_le hzs hb2.size
    clear hb2 HZ0 HB0'
    go_wp2_with fail
    have cA := Tryz.strconv_Atoi_err X (by omega) ha ev w2 ((HB2.out.cell (p := ⟨5, 0, none⟩) (by show 5 < w.heap.size; omega)).trans HEV.out) hev2
    have CA := hid cA
    clear cA ha cT
    refine CA.out.mono ?_
    rintro e w3 ⟨N, rfl, _, _, hb3⟩
    have hz3 := (hb3.block _ hzs2).trans HZ2.out
    have HB3 := hid (HB2.out.trans (hb3.mono HB2.out.size))
    have z0 : w3.cell? ⟨w.heap.size, 0, none⟩ = some (.string ⟨#[]⟩) := by rw [Lib.cell_of_heap hz3]; rfl
    have z1 : w3.cell? ⟨w.heap.size, 1, none⟩ = some (.int .i64 0) := by rw [Lib.cell_of_heap hz3]; rfl
    have z2 : w3.cell? ⟨w.heap.size, 2, none⟩ = some (.int .i64 0) := by rw [Lib.cell_of_heap hz3]; rfl
    have f : ∀ j, w3.frozen? ⟨w.heap.size, j, none⟩ = false := fun j => by simp [World.frozen?, hz3]
    have f0 := f 0
    have f1 := f 1
    have f2 := f 2
    have HZ3 := hid hz3
    clear f hz3 hb3 HZ2 CA
    go_wp2
    go_region
    all_goals
      go_wp2
      exact div_end rfl rfl rfl (three_set HZ3.out _ _ _) hn.out hb.out HP.out ((((HB3.out.setCell (p := ⟨w.heap.size, 0, none⟩) (Nat.le_refl _) _).setCell (p := ⟨w.heap.size, 1, none⟩) (Nat.le_refl _) _).setCell (p := ⟨w.heap.size, 2, none⟩) (Nat.le_refl _) _)).drew
  · obtain ⟨n, hnn⟩ : ∃ n, numL (lst s) = n := ⟨_, rfl⟩
    have hn : Hid (divV P (lst s) = .agg #[.string P, .int .i64 (n : Int), .int .i64 (X.size : Int)]) := hid (by unfold divV; rw [HXL.out, hnn])
    have hb : Hid (hasL (lst s) = true) := hid (by unfold hasL; simpa using h0)
    have ha : Lib.atoi (lst X) = some (n : Int) := by rw [HX.out, ← hnn]; exact atoi_num _ h0 hdg
    clear h0 hdg hnn
    go_enter Tryz.func126, Tryz.ntmps126
    go_wp2_with fail
    have HB0 := HS.out w
    have hz0 : (w.alloc (.cells #[.string ⟨#[]⟩, .int .i64 0, .int .i64 0] 158)).heap[w.heap.size]? = some (.cells #[.string ⟨#[]⟩, .int .i64 0, .int .i64 0] 158 (0, 0)) := heap_alloc_new w _
    have hzs : w.heap.size < (w.alloc (.cells #[.string ⟨#[]⟩, .int .i64 0, .int .i64 0] 158)).heap.size := by simp
    have HB0' := hid HB0
    have HZ0 := hid hz0
    clear HB0 hz0
    generalize w.alloc (.cells #[.string ⟨#[]⟩, .int .i64 0, .int .i64 0] 158) = w1 at HB0' HZ0 hzs ⊢
    refine (cT _).mono ?_
    rintro e w2 ⟨rfl, hb2⟩
    have HZ2 := hid ((hb2.block _ hzs).trans HZ0.out)
    have HB2 := hid (HB0'.out.trans (hb2.mono HB0'.out.size))
    have hzs2 : w.heap.size < w2.heap.size := Nat.lt_of_lt_of_le hzs hb2.size
    clear hb2 HZ0 HB0'
    go_wp2_with fail
    have cA := Tryz.strconv_Atoi X n (by omega) ha w2
    have CA := hid cA
    clear cA ha cT
    refine CA.out.mono ?_
    rintro e w3 ⟨rfl, t, hw3⟩
    have hb3 : Below w2.heap.size w2 w3 := by rw [hw3]; exact Lib.bytesWorld_below _ _ _
    clear hw3
    have hz3 := (hb3.block _ hzs2).trans HZ2.out
    have HB3 := hid (HB2.out.trans (hb3.mono HB2.out.size))
    have z0 : w3.cell? ⟨w.heap.size, 0, none⟩ = some (.string ⟨#[]⟩) := by rw [Lib.cell_of_heap hz3]; rfl
    have z1 : w3.cell? ⟨w.heap.size, 1, none⟩ = some (.int .i64 0) := by rw [Lib.cell_of_heap hz3]; rfl
    have z2 : w3.cell? ⟨w.heap.size, 2, none⟩ = some (.int .i64 0) := by rw [Lib.cell_of_heap hz3]; rfl
    have f : ∀ j, w3.frozen? ⟨w.heap.size, j, none⟩ = false := fun j => by simp [World.frozen?, hz3]
    have f0 := f 0
    have f1 := f 1
    have f2 := f 2
    have HZ3 := hid hz3
    clear f hz3 hb3 HZ2 CA
    go_wp2
    go_region
    all_goals
      go_wp2
      exact div_end rfl rfl rfl (three_set HZ3.out _ _ _) hn.out hb.out HP.out ((((HB3.out.setCell (p := ⟨w.heap.size, 0, none⟩) (Nat.le_refl _) _).setCell (p := ⟨w.heap.size, 1, none⟩) (Nat.le_refl _) _).setCell (p := ⟨w.heap.size, 2, none⟩) (Nat.le_refl _) _)).drew
end Go.Proofs.YtlgmanbilaminaaGreatDoor.S3
namespace Go.Proofs.YtlgmanbilaminaaGreatDoor
open Go Go.Proofs Go.RowKit Go.Lib
theorem infoInt : (Tryz.prog.info? 3).map (fun i => (i.zero, i.size, i.bytes)) = some (some (.int .i64 0), 1, 8) := by kernel_rfl
def intVals (l : List Int) : List Value := l.map (Value.int .i64)
theorem row_under {w w' : World} {B e z n : Nat} {v : Value} {xs : List Value} (h : w.ownsRow B e z v n xs) (hb : Below w.heap.size w w') : w'.ownsRow B e z v n xs := by
  obtain ⟨h1, h2⟩ := h
  refine ⟨h1, ?_⟩
  rcases h2 with h2 | ⟨k, cap, cur, hk, hg, hh, r⟩
  · exact .inl h2
  · exact .inr ⟨k, cap, cur, hk, hg, (hb.block k (Array.getElem?_eq_some_iff.1 hh).1).trans hh, r⟩
theorem row_slice {w : World} {B e z n : Nat} {v : Value} {xs : List Value} (h : w.ownsRow B e z v n xs) : ∃ A c, v = .slice A n c := by
  rcases h.2 with ⟨hv, h0⟩ | ⟨g, cap, cur, hv, _⟩
  · exact ⟨none, 0, by rw [hv, h0]⟩
  · exact ⟨_, cap, hv⟩
theorem info_parts {P : Program} {t : TypeId} {z : Value} {n b : Nat} (h : (P.info? t).map (fun i => (i.zero, i.size, i.bytes)) = some (some z, n, b)) : ∃ i, P.info? t = some i ∧ i.zero = some z ∧ i.size = n ∧ i.bytes = b := by
  cases hi : P.info? t with
  | none => rw [hi] at h; simp at h
  | some i =>
    rw [hi] at h
    simp only [Option.map_some, Option.some.injEq, Prod.mk.injEq] at h
    exact ⟨i, rfl, h.1, h.2.1, h.2.2⟩
def rollV (L : List Int) (k : Nat) (n : Int) : Int := match L[k]? with | some v => modI v n | none => 0
def rollK (L : List Int) (k : Nat) : Nat := if k < L.length then k + 1 else k
theorem rollV_range (L : List Int) (k : Nat) (n : Int) (h : 1 ≤ n) : 0 ≤ rollV L k n ∧ rollV L k n < n := by
  unfold rollV
  split
  · exact modI_range _ n h
  · omega
set_option maxHeartbeats 2000000 in
set_option maxRecDepth 100000 in
theorem next_at (g c k : Nat) (A : Option Addr) (L : List Int) (n : Int) (hn : n ≤ 4294967296) (w : World) (h : DiceAt w g A L c k) :
    Calls Tryz.prog 28 #[.pointer (some ⟨g, 0, none⟩), .int .i64 n] w fun e w' => e = .returned (.int .i64 (rollV L k n)) ∧ DiceAt w' g A L c (rollK L k) ∧ Rolled g w w' := by
  have h0 := h.list
  have h1 := h.at_
  have hle := h.le
  have hfew := h.few
  have H := hid h
  clear h
  by_cases hk : k < L.length
  · obtain ⟨v, hv⟩ : ∃ v, L[k]? = some v := ⟨_, List.getElem?_eq_getElem hk⟩
    have hr1 : rollV L k n = modI v n := by unfold rollV; rw [hv]
    have hr2 : rollK L k = k + 1 := if_pos hk
    rw [hr1, hr2]
    have HV := hid hv
    clear hr1 hr2 hv
    have hkz : ¬ (L.length : Int) ≤ (k : Int) := by omega
    have hkb : decide (L.length ≤ k) = false := decide_eq_false (by omega)
    go_enter Tryz.func28, Tryz.ntmps28
    go_wp2
    go_quiet (fail)
    have hD := H.out.drawn nq
    have hR := Rolled.drawn g w nq
    generalize w.drewN nq = w1 at hD hR ⊢
    clear h0 h1 H
    have h0 := hD.list
    have h1 := hD.at_
    have hf := hD.free 1
    have hD2 := hD.next hk
    have hR2 := hR.trans (Rolled.set g 1 w1 (.int .i64 ((k : Int) + 1)))
    have HD2 := hid hD2
    have HR2 := hid hR2
    clear hD hR hD2 hR2
    go_wp2
    have hD := HD2.out
    have hR := HR2.out
    clear HD2 HR2 h0 h1 hf
    generalize w1.setCell ⟨g, 1, none⟩ (.int .i64 ((k : Int) + 1)) = w2 at hD hR ⊢
    have h0 := hD.list
    have h1 := hD.at_
    rw [show (((k + 1 : Nat)) : Int) = (k : Int) + 1 by omega] at h1
    obtain ⟨b, off, rfl, hc⟩ : ∃ b off, A = some ⟨b, off, none⟩ ∧ w2.cell? ⟨b, off + k, none⟩ = some (.int .i64 v) := by
      rcases hD.ints with h' | ⟨b, off, hA, _, hc⟩
      · rw [h'] at hk; simp at hk
      · exact ⟨b, off, hA, hc k v HV.out⟩
    have HD := hid hD
    have HR := hid hR
    clear hD hR
    go_quiet ((go_at_call 33; with_reducible refine Calls.quiet_of_same ((mod_any v n hn _).mono fun _ _ h => ⟨h.1, h.2.symm⟩)))
    go_wp2
    go_ret
    exact ⟨rfl, HD.out.drawn nq, HR.out.trans (Rolled.drawn g w2 nq)⟩
  · have hr1 : rollV L k n = 0 := by
      unfold rollV
      rw [List.getElem?_eq_none (by omega)]
    have hr2 : rollK L k = k := if_neg hk
    rw [hr1, hr2]
    clear hr1 hr2
    have hkz : (L.length : Int) ≤ (k : Int) := by omega
    have hkb : decide (L.length ≤ k) = true := decide_eq_true (by omega)
    go_enter Tryz.func28, Tryz.ntmps28
    go_wp2
    go_quiet (fail)
    go_wp2
    go_ret
    exact ⟨rfl, H.out.drawn nq, Rolled.drawn g w nq⟩
structure DE (w0 : World) (g c : Nat) (A : Option Addr) (L : List Int) (k : Nat) (w : World) : Prop where
  d : DiceAt w g A L c k
  p : Played w0.heap.size g w0 w
section
variable {w0 w w' : World} {g c k k' : Nat} {A : Option Addr} {L : List Int}
theorem DE.first (h : DiceAt w g A L c k) : DE w g c A L k w := ⟨h, Played.refl _ _ _⟩
theorem DE.alloc (h : DE w0 g c A L k w) (o : Obj) : DE w0 g c A L k (w.alloc o) :=
  ⟨h.d.below (Below.alloc (Below.refl _ _) (Nat.le_refl _) o) h.d.lt, h.p.below (Below.alloc (Below.refl _ _) h.p.size o)⟩
theorem DE.set (h : DE w0 g c A L k w) (b o : Nat) (v : Value) (hb : w0.heap.size ≤ b) (hg : g < b) : DE w0 g c A L k (w.setCell ⟨b, o, none⟩ v) :=
  ⟨h.d.below (B := b) ((Below.refl b w).setCell (p := ⟨b, o, none⟩) (Nat.le_refl _) v) hg, h.p.below ((Below.refl _ w).setCell (p := ⟨b, o, none⟩) hb v)⟩
theorem DE.next (h : DE w0 g c A L k w) (hd : DiceAt w' g A L c k') (hr : Rolled g w w') : DE w0 g c A L k' w' := ⟨hd, h.p.rolled hr⟩
theorem DE.below (h : DE w0 g c A L k w) (hb : Below w0.heap.size w w') (hg : g < w0.heap.size) : DE w0 g c A L k w' := ⟨h.d.below hb hg, h.p.below hb⟩
end
theorem Rolled.cells {g : Nat} {w w' : World} (h : Rolled g w w') : ∀ b o, b ≠ g → w'.cell? ⟨b, o, none⟩ = w.cell? ⟨b, o, none⟩ := fun b o hb => World.cell?_of_block (w := w) (h.block b hb)
theorem results_c {fn : Func} {p : Tmp} {A : TypeId} (h : fn.results = #[.cell p A]) (tmps : Array Value) (P : Program) (w : World) (a : Addr) (va : Value)
    (ha : tmps.getD p undef = .pointer (some a)) (hla : (loadVar A a).run P w = .ok va w) : (results fn tmps).run P w = .ok va w := by
  rw [Array.getD_eq_getD_getElem?] at ha
  simp only [results, h]
  simp [ha, hla, asAddr]
theorem cells_free {w : World} {b : Nat} {cs : Array Value} {t : TypeId} (h : w.heap[b]? = some (.cells cs t (0, 0))) (j : Nat) : w.frozen? ⟨b, j, none⟩ = false := by simp [World.frozen?, h]
abbrev Str := List UInt8
abbrev lst (s : ByteArray) : Str := s.data.toList
def ba (s : Str) : ByteArray := ⟨s.toArray⟩
theorem ba_lst (s : ByteArray) : ba (lst s) = s := by cases s; rfl
theorem lst_ba (l : Str) : lst (ba l) = l := rfl
theorem lst_extract (s : ByteArray) (a b : Nat) : lst (s.extract a b) = ((lst s).take b).drop a := by
  simp [lst, ByteArray.data_extract, List.extract_eq_take_drop, List.drop_take]
theorem str_no {s : ByteArray} (h : 0 < s.size) : (s.toList == []) = false ∧ (!s.toList.isEmpty) = true ∧ (s.toList != []) = true ∧ ¬ s.toList = [] := by
  have hne : s.toList ≠ [] := fun e => by
    rw [Lib.toList_data] at e
    rw [Lib.size_eq, e] at h
    simp at h
  refine ⟨by simpa using hne, by simpa using hne, by simpa using hne, hne⟩
theorem str_yes {s : ByteArray} (h : ¬ 0 < s.size) : (s.toList == []) = true ∧ (!s.toList.isEmpty) = false ∧ (s.toList != []) = false ∧ s.toList = [] := by
  have e : s.toList = [] := by
    rw [Lib.toList_data]
    exact List.eq_nil_of_length_eq_zero (by rw [← Lib.size_eq]; omega)
  refine ⟨by simpa using e, by simp [e], by simp [e], e⟩
theorem lst_ne {s : ByteArray} (h : 0 < s.size) : lst s ≠ [] := fun e => by
  have h' : 0 < (lst s).length := by rw [← Lib.size_eq]; exact h
  rw [e] at h'
  simp at h'
theorem lst_nil {s : ByteArray} (h : ¬ 0 < s.size) : lst s = [] := List.eq_nil_of_length_eq_zero (by rw [← Lib.size_eq]; omega)
def bef (c : UInt8) : Str → Str
  | [] => []
  | x :: r => if x = c then [] else x :: bef c r
def aft (c : UInt8) : Str → Str
  | [] => []
  | x :: r => if x = c then r else aft c r
def has (c : UInt8) : Str → Bool
  | [] => false
  | x :: r => x == c || has c r
def strV (s : Str) : Value := .string ⟨s.toArray⟩
def StrsIn (w : World) (P : Nat → Prop) (A : Option Addr) (l : List Str) : Prop :=
  l = [] ∨ ∃ b off, A = some ⟨b, off, none⟩ ∧ P b ∧ ∀ (j : Nat) (s : Str), l[j]? = some s → w.cell? ⟨b, off + j, none⟩ = some (strV s)
theorem StrsIn.kept {w w' : World} {P : Nat → Prop} {A : Option Addr} {l : List Str} (h : StrsIn w P A l) (hk : ∀ b, P b → w'.heap[b]? = w.heap[b]?) : StrsIn w' P A l := by
  rcases h with h | ⟨b, off, hA, hP, hc⟩
  · exact .inl h
  · exact .inr ⟨b, off, hA, hP, fun j s hj => (World.cell?_of_block (w := w) (hk b hP)).trans (hc j s hj)⟩
theorem StrsIn.mono {w : World} {P P' : Nat → Prop} {A : Option Addr} {l : List Str} (h : StrsIn w P A l) (hP : ∀ b, P b → P' b) : StrsIn w P' A l := by
  rcases h with h | ⟨b, off, hA, hb, hc⟩
  · exact .inl h
  · exact .inr ⟨b, off, hA, hP b hb, hc⟩
theorem StrsIn.at_ {w : World} {P : Nat → Prop} {A : Option Addr} {l : List Str} (h : StrsIn w P A l) {k : Nat} (hk : k < l.length) :
    ∃ b off, A = some ⟨b, off, none⟩ ∧ P b ∧ w.cell? ⟨b, off + k, none⟩ = some (strV l[k]) := by
  rcases h with h | ⟨b, off, hA, hP, hc⟩
  · subst h; simp at hk
  · exact ⟨b, off, hA, hP, hc k _ (List.getElem?_eq_getElem hk)⟩
theorem infoStr : (Tryz.prog.info? 9).map (fun i => (i.zero, i.size, i.bytes)) = some (some (.string ⟨#[]⟩), 1, 16) := by kernel_rfl
def strVals (l : List Str) : List Value := l.map strV
theorem strVals_len (l : List Str) : (strVals l).length = l.length := by simp [strVals]
theorem strVals_app (a b : List Str) : strVals (a ++ b) = strVals a ++ strVals b := by simp [strVals]
def StrRow (w : World) (B : Nat) (v : Value) (l : List Str) : Prop := w.ownsRow B 9 1 v l.length (strVals l)
theorem StrRow.strsIn {w : World} {B : Nat} {v : Value} {l : List Str} (h : StrRow w B v l) : ∃ A c, v = .slice A l.length c ∧ l.length ≤ c ∧ c ≤ 9223372036854775807 ∧ StrsIn w (fun b => B ≤ b ∧ b < w.heap.size) A l := by
  have h' := h
  rcases h.2 with ⟨hv, h0⟩ | ⟨g, cap, cur, hv, hB, hg, h1, h2, _⟩
  · have hl : l = [] := List.eq_nil_of_length_eq_zero h0
    subst hl
    exact ⟨none, 0, hv, Nat.le_refl _, by omega, .inl rfl⟩
  · refine ⟨_, cap, hv, h1, by unfold maxLen at h2; omega, .inr ⟨g, 0, rfl, ⟨hB, (Array.getElem?_eq_some_iff.1 hg).1⟩, fun j s hj => ?_⟩⟩
    have := World.ownsRow.cells h' (g := g) (by rw [hv]; rfl) j (strV s) (by unfold strVals; rw [List.getElem?_map, hj]; rfl)
    rwa [Addr.add_lit] at this
theorem StrRow.mono {w : World} {B B' : Nat} {v : Value} {l : List Str} (h : StrRow w B v l) (hB : B' ≤ B) : StrRow w B' v l := by
  obtain ⟨h1, h2⟩ := h
  refine ⟨h1, ?_⟩
  rcases h2 with h2 | ⟨g, cap, cur, hv, hg, r⟩
  · exact .inl h2
  · exact .inr ⟨g, cap, cur, hv, by omega, r⟩
theorem one_str (s : ByteArray) : ∀ u ∈ [Value.string s], u.oneCell' = true := by
  intro u hu
  simp at hu
  subst hu
  rfl
end Go.Proofs.YtlgmanbilaminaaGreatDoor
namespace Go.Proofs.YtlgmanbilaminaaGreatDoor.S3
open Go Go.Proofs Go.RowKit Go.Lib
def strV (s : Str) : Value := .string ⟨s.toArray⟩
def StrsIn (w : World) (P : Nat → Prop) (A : Option Addr) (l : List Str) : Prop :=
  l = [] ∨ ∃ b off, A = some ⟨b, off, none⟩ ∧ P b ∧ ∀ (j : Nat) (s : Str), l[j]? = some s → w.cell? ⟨b, off + j, none⟩ = some (strV s)
theorem StrsIn.kept {w w' : World} {P : Nat → Prop} {A : Option Addr} {l : List Str} (h : StrsIn w P A l) (hk : ∀ b, P b → w'.heap[b]? = w.heap[b]?) : StrsIn w' P A l := by
  rcases h with h | ⟨b, off, hA, hP, hc⟩
  · exact .inl h
  · exact .inr ⟨b, off, hA, hP, fun j s hj => (World.cell?_of_block (w := w) (hk b hP)).trans (hc j s hj)⟩
theorem StrsIn.mono {w : World} {P P' : Nat → Prop} {A : Option Addr} {l : List Str} (h : StrsIn w P A l) (hP : ∀ b, P b → P' b) : StrsIn w P' A l := by
  rcases h with h | ⟨b, off, hA, hb, hc⟩
  · exact .inl h
  · exact .inr ⟨b, off, hA, hP b hb, hc⟩
theorem StrsIn.at_ {w : World} {P : Nat → Prop} {A : Option Addr} {l : List Str} (h : StrsIn w P A l) {k : Nat} (hk : k < l.length) :
    ∃ b off, A = some ⟨b, off, none⟩ ∧ P b ∧ w.cell? ⟨b, off + k, none⟩ = some (strV l[k]) := by
  rcases h with h | ⟨b, off, hA, hP, hc⟩
  · subst h; simp at hk
  · exact ⟨b, off, hA, hP, hc k _ (List.getElem?_eq_getElem hk)⟩
theorem infoStr : (Tryz.prog.info? 9).map (fun i => (i.zero, i.size, i.bytes)) = some (some (.string ⟨#[]⟩), 1, 16) := by kernel_rfl
def strVals (l : List Str) : List Value := l.map strV
theorem strVals_len (l : List Str) : (strVals l).length = l.length := by simp [strVals]
theorem strVals_app (a b : List Str) : strVals (a ++ b) = strVals a ++ strVals b := by simp [strVals]
def StrRow (w : World) (B : Nat) (v : Value) (l : List Str) : Prop := w.ownsRow B 9 1 v l.length (strVals l)
theorem StrRow.strsIn {w : World} {B : Nat} {v : Value} {l : List Str} (h : StrRow w B v l) : ∃ A c, v = .slice A l.length c ∧ l.length ≤ c ∧ c ≤ 9223372036854775807 ∧ StrsIn w (fun b => B ≤ b ∧ b < w.heap.size) A l := by
  have h' := h
  rcases h.2 with ⟨hv, h0⟩ | ⟨g, cap, cur, hv, hB, hg, h1, h2, _⟩
  · have hl : l = [] := List.eq_nil_of_length_eq_zero h0
    subst hl
    exact ⟨none, 0, hv, Nat.le_refl _, by omega, .inl rfl⟩
  · refine ⟨_, cap, hv, h1, by unfold maxLen at h2; omega, .inr ⟨g, 0, rfl, ⟨hB, (Array.getElem?_eq_some_iff.1 hg).1⟩, fun j s hj => ?_⟩⟩
    have := World.ownsRow.cells h' (g := g) (by rw [hv]; rfl) j (strV s) (by unfold strVals; rw [List.getElem?_map, hj]; rfl)
    rwa [Addr.add_lit] at this
theorem StrRow.mono {w : World} {B B' : Nat} {v : Value} {l : List Str} (h : StrRow w B v l) (hB : B' ≤ B) : StrRow w B' v l := by
  obtain ⟨h1, h2⟩ := h
  refine ⟨h1, ?_⟩
  rcases h2 with h2 | ⟨g, cap, cur, hv, hg, r⟩
  · exact .inl h2
  · exact .inr ⟨g, cap, cur, hv, by omega, r⟩
theorem one_str (s : ByteArray) : ∀ u ∈ [Value.string s], u.oneCell' = true := by
  intro u hu
  simp at hu
  subst hu
  rfl
theorem row_under {w w' : World} {B e z n : Nat} {v : Value} {xs : List Value} (h : w.ownsRow B e z v n xs) (hb : Below w.heap.size w w') : w'.ownsRow B e z v n xs := by
  obtain ⟨h1, h2⟩ := h
  refine ⟨h1, ?_⟩
  rcases h2 with h2 | ⟨k, cap, cur, hk, hg, hh, r⟩
  · exact .inl h2
  · exact .inr ⟨k, cap, cur, hk, hg, (hb.block k (Array.getElem?_eq_some_iff.1 hh).1).trans hh, r⟩
set_option maxHeartbeats 1000000 in
theorem row_slice {w : World} {B e z n : Nat} {v : Value} {xs : List Value} (h : w.ownsRow B e z v n xs) : ∃ A c, v = .slice A n c := by
  rcases h.2 with ⟨hv, h0⟩ | ⟨g, cap, cur, hv, _⟩
  · exact ⟨none, 0, by rw [hv, h0]⟩
  · exact ⟨_, cap, hv⟩
end Go.Proofs.YtlgmanbilaminaaGreatDoor.S3
namespace Go.Proofs.YtlgmanbilaminaaGreatDoor.S10
open Go Go.Proofs Go.RowKit Go.Lib Go.Proofs.YtlgmanbilaminaaGreatDoor
structure SP (w0 : World) (g c : Nat) (A : Option Addr) (L : List Int) (ss : List Str) (v : Value) (w : World) : Prop where
  e : ∃ k, DE w0 g c A L k w
  r : S3.StrRow w w0.heap.size v ss
  g0 : g < w0.heap.size
section
variable {w0 w w' : World} {g c : Nat} {A : Option Addr} {L : List Int} {ss : List Str} {v v' : Value}
theorem SP.roll {k' : Nat} (h : SP w0 g c A L ss v w) (hd : DiceAt w' g A L c k') (hr : Rolled g w w') : SP w0 g c A L ss v w' := by
  obtain ⟨k, h0⟩ := h.e
  have hg := h.g0
  exact ⟨⟨k', h0.next hd hr⟩, hr.row h.r (fun e => by have h1 := World.ownsRow.lt h.r g e; omega), hg⟩
theorem SP.app {t : Str} (h : SP w0 g c A L ss v w) (hg : w.grownBy w' v.ownBlock) (hr : S3.StrRow w' w0.heap.size v' (ss ++ [t])) : SP w0 g c A L (ss ++ [t]) v' w' := by
  obtain ⟨k, h0⟩ := h.e
  have hb : Below w0.heap.size w w' := (Below.refl _ w).grown hg h0.p.size (fun k hk => (World.ownsRow.lt h.r k hk).1)
  exact ⟨⟨k, h0.below hb h.g0⟩, hr, h.g0⟩
end
theorem SP.first {w : World} {g c k : Nat} {A : Option Addr} {L : List Int} (h : DiceAt w g A L c k) : SP w g c A L [] (.slice none 0 0) w :=
  ⟨⟨k, DE.first h⟩, World.ownsRow_nil _ _ _ _, h.lt⟩
def SomeP (l : List Str) (g c : Nat) (A : Option Addr) (L : List Int) (w0 : World) (e : Ending) (w' : World) : Prop :=
  ∃ (ss : List Str) (v : Value) (k' : Nat), e = .returned v ∧ ss.Sublist l ∧ S3.StrRow w' w0.heap.size v ss ∧ DE w0 g c A L k' w'
theorem strs_at {w : World} {P : Nat → Prop} {A : Option Addr} {l : List Str} (h : S3.StrsIn w P A l) {k : Nat} (hk : k < l.length) : ∃ b off, A = some ⟨b, off, none⟩ ∧ P b ∧ w.cell? ⟨b, off + k, none⟩ = some (.string (ba l[k])) := by
  rcases h with h | ⟨b, off, hA, hP, hc⟩
  · subst h; simp at hk
  · exact ⟨b, off, hA, hP, hc k _ (List.getElem?_eq_getElem hk)⟩
set_option maxHeartbeats 16000000 in
set_option maxRecDepth 100000 in
theorem some_any (g c k : Nat) (A : Option Addr) (L : List Int) (n : Int) (hn1 : 1 ≤ n) (hn : n ≤ 100) (As : Option Addr) (l : List Str) (cs : Nat) (w : World) (h : DiceAt w g A L c k) (hs : S3.StrsIn w (fun b => b < w.heap.size ∧ b ≠ g) As l) (hl : l.length ≤ 100) :
    Calls Tryz.prog 54 #[.pointer (some ⟨g, 0, none⟩), .slice As l.length cs, .int .i64 n] w (SomeP l g c A L w) := by
  obtain ⟨i9, hi9, hz9, hsi9, hby9⟩ := info_parts S3.infoStr
  have H0 := hid (SP.first h)
  have HO := hid (fun (W : World) k (h : DiceAt W g A L c k) => one_any g c k A L n (by omega) hn1 W h)
  have HS := hid hs
  clear h hs
  go_enter Tryz.func54, Tryz.ntmps54
  go_wp2
  go_loopw [7, 8] (fun v iv wr => ∃ (i : Nat) (ss : List Str) (Ar : Option Addr) (cr : Nat), v = .slice Ar ss.length cr ∧ iv = .int .i64 (i : Int) ∧ i ≤ l.length ∧ ss.length ≤ i ∧ Hid (ss.Sublist (l.take i)) ∧ Hid (SP w g c A L ss (.slice Ar ss.length cr) wr)) (fun _ iv _ => l.length - (RowKit.intOf iv).toNat)
  case atStart => exact ⟨0, [], none, 0, rfl, rfl, Nat.zero_le _, Nat.le_refl _, hid (List.nil_sublist _), H0⟩
  case round =>
    obtain ⟨i, ss, Ar, cr, rfl, rfl, hi, hsi, hsub, hP⟩ := hrel
    by_cases hlt : i < l.length
    · have hltz : (i : Int) < (l.length : Int) := by omega
      have dk : decide (l.length ≤ i) = false := decide_eq_false (by omega)
      obtain ⟨k2, he2⟩ := hP.out.e
      have cO := hid (HO.out _ _ he2.d)
      obtain ⟨b, off, rfl, hb, hc⟩ := strs_at HS.out hlt
      have hcr : Hid (wr.cell? ⟨b, off + i, none⟩ = some (.string (ba l[i]))) := hid ((World.cell?_of_block (w := w) (he2.p.block b hb.1 hb.2)).trans hc)
      have hbg := hb.2
      clear he2 hb hc
      have hsubn : Hid (ss.Sublist (l.take (i + 1)) ∧ (ss ++ [l[i]]).Sublist (l.take (i + 1))) := hid (by
        rw [List.take_succ_eq_append_getElem hlt]
        exact ⟨hsub.out.trans (List.sublist_append_left _ _), hsub.out.append (List.Sublist.refl _)⟩)
      obtain ⟨X, hX⟩ : ∃ X, l[i] = X := ⟨_, rfl⟩
      rw [hX] at hcr hsubn
      clear hX
      go_wp2_with fail
      refine cO.out.mono ?_
      rintro e w2 ⟨⟨r, rfl⟩, ⟨k3, hd⟩, hR⟩
      have HP2 := hid (hP.out.roll hd hR)
      have hc2 : w2.cell? ⟨b, off + i, none⟩ = some (.string (ba X)) := (hR.cells b _ hbg).trans hcr.out
      clear hd hR hP cO hcr
      cases r with
      | true =>
        have HC3 : Hid (ss.length + 1 ≤ maxLen) := by unfold maxLen; exact hid (by omega)
        have HC4 : Hid ((ss.length + 1) * 16 ≤ 140737488355328) := hid (by omega)
        have HC5 : Hid (∀ o : Obj, w.heap.size ≤ (w2.alloc o).heap.size) := hid (fun o => by obtain ⟨k, h0⟩ := HP2.out.e; have := h0.p.size; simp; omega)
        go_wp2_with (at_builtin; refine wpList_append_own _ rfl _ _ 40 rfl w.heap.size 9 i9 (.string ⟨#[]⟩) 1 16 Tryz.underlying40 hi9 hz9 hsi9 hby9 rfl (by decide) _ ss.length (S3.strVals ss) rfl (World.ownsRow.alloc HP2.out.r _) ⟨w2.heap.size, 0, none⟩ 1 1 [.string (ba X)] rfl rfl (one_new _ _ _) (S3.one_str _) HC3.out HC4.out (HC5.out _) ?_)
        intro v' w4 hown' hgrow _
        have hg' := grownBy_of_alloc hgrow
        obtain ⟨A6, c6, rfl⟩ := S3.row_slice hown'
        have hrow6 : S3.StrRow w4 w.heap.size (.slice A6 (ss.length + 1) c6) (ss ++ [X]) := by
          unfold S3.StrRow
          rw [S3.strVals_app, List.length_append]
          exact hown'
        have HT4 := hid (HP2.out.app hg' hrow6)
        clear hown' hgrow hg' hrow6 HP2 HC3 HC4 HC5 hc2
        go_wp2
        go_roundw
        case rel => exact ⟨i + 1, ss ++ [X], A6, c6, by simp, by go_num, by omega, by simp; omega, hid hsubn.out.2, hid (by have := HT4.out; simpa using this)⟩
        case measure => simp [RowKit.intOf]; omega
      | false =>
        clear hc2
        go_wp2
        go_roundw
        case rel => exact ⟨i + 1, ss, Ar, cr, rfl, by go_num, by omega, by omega, hid hsubn.out.1, HP2⟩
        case measure => simp [RowKit.intOf]; omega
    · have hltz : ¬ (i : Int) < (l.length : Int) := by omega
      obtain ⟨k2, he2⟩ := hP.out.e
      have HR : Hid (SomeP l g c A L w (.returned (.slice Ar ss.length cr)) wr) := hid ⟨ss, _, k2, rfl, by have := hsub.out; rwa [List.take_of_length_le (by omega)] at this, hP.out.r, he2⟩
      clear he2 hP
      go_wp2
      go_ret
      exact HR.out
end Go.Proofs.YtlgmanbilaminaaGreatDoor.S10
namespace Go.Proofs.YtlgmanbilaminaaGreatDoor
open Go Go.Proofs Go.RowKit Go.Lib
abbrev TimeD := Int × Int × Int × Int
def timeVs (t : TimeD) : List Value := [.int .i64 t.1, .int .i64 t.2.1, .int .i64 t.2.2.1, .int .i64 t.2.2.2]
theorem S3.StrsIn.below {w w' : World} {B : Nat} {A : Option Addr} {l : List Str} (h : S3.StrsIn w (fun b => b < B) A l) (hb : Below B w w') : S3.StrsIn w' (fun b => b < B) A l := h.kept fun b hB => hb.block b hB
end Go.Proofs.YtlgmanbilaminaaGreatDoor
