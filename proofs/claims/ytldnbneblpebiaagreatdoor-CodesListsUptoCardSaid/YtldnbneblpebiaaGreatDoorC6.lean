/-
  Natural order: the program's Compare. Conditions: the strings fit into memory.
-/
import Derived.Test.YtldnbneblpebiaaGreatDoorC5
set_option linter.unusedVariables false
namespace Go.Proofs.YtldnbneblpebiaaGreatDoor
open Go Go.Proofs Go.RowKit Go.Lib

theorem str_no {s : ByteArray} (h : 0 < s.size) : (s.toList == []) = false ∧ (!s.toList.isEmpty) = true ∧ (s.toList != []) = true ∧ ¬ s.toList = [] := by
  have hne : s.toList ≠ [] := fun e => by
    rw [Lib.toList_data] at e
    rw [Lib.size_eq, e] at h
    simp at h
  refine ⟨by simpa using hne, by simpa using hne, by simpa using hne, hne⟩
theorem str_yes {s : ByteArray} (h : ¬ 0 < s.size) : (s.toList == []) = true ∧ (!s.toList.isEmpty) = false ∧ (s.toList != []) = false ∧ s.toList = [] := by
  have e : s.toList = [] := by
    rw [Lib.toList_data]
    exact List.eq_nil_of_length_eq_zero (by rw [← Lib.size_eq]; omega)
  refine ⟨by simpa using e, by simp [e], by simp [e], e⟩
theorem lst_ne {s : ByteArray} (h : 0 < s.size) : lst s ≠ [] := fun e => by
  have h' : 0 < (lst s).length := by rw [← Lib.size_eq]; exact h
  rw [e] at h'
  simp at h'
theorem lst_nil {s : ByteArray} (h : ¬ 0 < s.size) : lst s = [] := List.eq_nil_of_length_eq_zero (by rw [← Lib.size_eq]; omega)
theorem lex_end (X Y : ByteArray) (h : ¬ 0 < X.size ∨ ¬ 0 < Y.size) : lexC cmpE (elems (lst X)) (elems (lst Y)) = cmpI (X.size : Int) (Y.size : Int) := by
  by_cases hx : 0 < X.size
  · have hy : ¬ 0 < Y.size := h.resolve_left (fun e => e hx)
    rw [lst_nil hy, elems_cons _ (lst_ne hx)]
    unfold cmpI
    rw [if_neg (by omega), if_pos (by omega)]
    rfl
  · rw [lst_nil hx]
    by_cases hy : 0 < Y.size
    · rw [elems_cons _ (lst_ne hy)]
      unfold cmpI
      rw [if_pos (by omega)]
      rfl
    · rw [lst_nil hy]
      unfold cmpI
      rw [if_neg (by omega), if_neg (by omega)]
      rfl
theorem lex_step (X Y : Str) (hx : X ≠ []) (hy : Y ≠ []) : lexC cmpE (elems X) (elems Y) = if cmpE (X.take (elemN X)) (Y.take (elemN Y)) = 0 then lexC cmpE (elems (X.drop (elemN X))) (elems (Y.drop (elemN Y))) else cmpE (X.take (elemN X)) (Y.take (elemN Y)) := by
  rw [elems_cons X hx, elems_cons Y hy]
  rfl
theorem cmpM_or (a b : Str) : cmpM a b = orI (lexC cmpE (elems a) (elems b)) (compareBytes a b) := rfl
def strSize : Value → Nat
  | .string s => s.size
  | _ => 0

set_option maxHeartbeats 4000000 in
set_option maxRecDepth 100000 in
theorem compare_any (a b : ByteArray) (ha : a.size ≤ 9223372036854775807) (hb : b.size ≤ 9223372036854775807) (w : World) :
    Calls Tryz.prog 12 #[.string a, .string b] w fun e w' => e = .returned (.int .i64 (cmpM (lst a) (lst b))) ∧ Below w.heap.size w w' := by
  rw [cmpM_or]
  obtain ⟨LX, hLX⟩ : ∃ x, lexC cmpE (elems (lst a)) (elems (lst b)) = x := ⟨_, rfl⟩
  have cS := Tryz.strings_Compare a b
  rw [show compareBytes a.data.toList b.data.toList = compareBytes (lst a) (lst b) from rfl] at cS
  obtain ⟨y, hy⟩ : ∃ y, compareBytes (lst a) (lst b) = y := ⟨_, rfl⟩
  rw [hy] at cS ⊢
  rw [hLX]
  have HLX := hid hLX
  clear hLX hy
  go_enter Tryz.func12, Tryz.ntmps12
  go_wp2
  go_loopw [5, 6, 7, 8, 9] (fun xv yv _ _ _ wr => ∃ X Y : ByteArray, xv = .string X ∧ yv = .string Y ∧ X.size ≤ a.size ∧ Y.size ≤ b.size ∧ Hid (LX = lexC cmpE (elems (lst X)) (elems (lst Y))) ∧ Hid (Below w.heap.size w wr)) (fun xv _ _ _ _ _ => strSize xv)
  case atStart => exact ⟨a, b, rfl, rfl, Nat.le_refl _, Nat.le_refl _, hid HLX.out.symm, hid (Below.refl _ _)⟩
  case round =>
    obtain ⟨X, Y, rfl, rfl, hXs, hYs, hE, hB⟩ := hrel
    by_cases hx : 0 < X.size
    · by_cases hy : 0 < Y.size
      · have cX := cutElement_any X hx (by omega) wr
        have CX := hid cX
        have CY := hid (fun w => cutElement_any Y hy (by omega) w)
        have hst := hid (lex_step (lst X) (lst Y) (lst_ne hx) (lst_ne hy))
        have pX := elemN_pos _ (lst_ne hx)
        have pY := elemN_pos _ (lst_ne hy)
        have lX := elemN_le (lst X)
        have lY := elemN_le (lst Y)
        rw [show (lst X).length = X.size from (Lib.size_eq X).symm] at lX
        rw [show (lst Y).length = Y.size from (Lib.size_eq Y).symm] at lY
        obtain ⟨x1, x2, x3, _⟩ := str_no hx
        obtain ⟨y1, y2, y3, _⟩ := str_no hy
        clear cX
        go_wp2_with fail
        refine CX.out.mono ?_
        rintro e w1 ⟨⟨P, X', rfl, hP, hX'⟩, hb1⟩
        have sP : P.size = elemN (lst X) := by rw [Lib.size_eq, show P.data.toList = _ from hP, List.length_take, show (lst X).length = X.size from (Lib.size_eq X).symm]; omega
        have sX' : X'.size = X.size - elemN (lst X) := by rw [Lib.size_eq, show X'.data.toList = _ from hX', List.length_drop, show (lst X).length = X.size from (Lib.size_eq X).symm]
        have HP := hid hP
        have HX' := hid hX'
        have HB1 := hid (hB.out.trans (hb1.mono hB.out.size))
        have hP0 : 0 < P.size := by omega
        have hPs : P.size ≤ 9223372036854775807 := by omega
        have hXl : X'.size < X.size := by omega
        clear hP hX' hb1 hB x1 x2 x3 y1 y2 y3
        go_wp2_with fail
        refine (CY.out _).mono ?_
        rintro e w2 ⟨⟨Q, Y', rfl, hQ, hY'⟩, hb2⟩
        have sQ : Q.size = elemN (lst Y) := by rw [Lib.size_eq, show Q.data.toList = _ from hQ, List.length_take, show (lst Y).length = Y.size from (Lib.size_eq Y).symm]; omega
        have sY' : Y'.size = Y.size - elemN (lst Y) := by rw [Lib.size_eq, show Y'.data.toList = _ from hY', List.length_drop, show (lst Y).length = Y.size from (Lib.size_eq Y).symm]
        have HQ := hid hQ
        have HY' := hid hY'
        have HB2 := hid (HB1.out.trans (hb2.mono HB1.out.size))
        have hQ0 : 0 < Q.size := by omega
        have hQs : Q.size ≤ 9223372036854775807 := by omega
        have hYl : Y'.size < Y.size := by omega
        clear hQ hY' hb2 sP sX' sQ sY' HB1
        go_wp2_with fail
        refine (compareElements_any P Q hP0 hQ0 hPs hQs _).mono ?_
        rintro e w3 ⟨rfl, hb3⟩
        have HB3 := hid (HB2.out.trans (hb3.mono HB2.out.size))
        clear hb3 HB2
        have hc : Hid (LX = if cmpE (lst P) (lst Q) = 0 then lexC cmpE (elems (lst X')) (elems (lst Y')) else cmpE (lst P) (lst Q)) := hid (by rw [hE.out, hst.out, HP.out, HQ.out, HX'.out, HY'.out])
        generalize cmpE (lst P) (lst Q) = c at hc ⊢
        by_cases h0 : c = 0
        · have hz : ((c : Int) != 0) = false := by simp [h0]
          have hn : Hid (LX = lexC cmpE (elems (lst X')) (elems (lst Y'))) := hid (by rw [hc.out, if_pos h0])
          clear h0 hc
          go_wp2
          go_roundw
          case rel => exact ⟨X', Y', rfl, rfl, by omega, by omega, hn, HB3⟩
          case measure => exact hXl
        · have hz : ((c : Int) != 0) = true := by simpa using h0
          have hn : Hid (orI LX y = c) := hid (by rw [hc.out, if_neg h0]; exact if_neg h0)
          clear h0 hc
          go_wp2
          go_ret
          rw [hn.out]
          exact ⟨rfl, HB3.out⟩
      · have hl := hid (lex_end X Y (.inr hy))
        obtain ⟨x1, x2, x3, _⟩ := str_no hx
        obtain ⟨y1, y2, y3, _⟩ := str_yes hy
        have cI := Tryz.cmp_Compare_int (X.size : Int) (Y.size : Int)
        rw [compareInt_eq] at cI
        have hn : Hid (LX = cmpI (X.size : Int) (Y.size : Int)) := hid (by rw [hE.out, hl.out])
        generalize cmpI (X.size : Int) (Y.size : Int) = x at cI hn
        clear hl hE
        go_wp2_with fail
        refine (cI _).mono ?_
        rintro e w' ⟨rfl, rfl⟩
        go_wp2_with fail
        refine (cS _).mono ?_
        rintro e w' ⟨rfl, rfl⟩
        go_wp2_with fail
        refine (or_any _ _ x y _ (by rw [Lib.cell_of_heap (heap_alloc_new _ _)]; rfl) (by rw [Lib.cell_of_heap (heap_alloc_new _ _)]; rfl)).mono ?_
        rintro e w' ⟨rfl, rfl⟩
        go_wp2
        go_ret
        rw [hn.out]
        exact ⟨rfl, hB.out.alloc hB.out.size _⟩
    · have hl := hid (lex_end X Y (.inl hx))
      obtain ⟨x1, x2, x3, _⟩ := str_yes hx
      have cI := Tryz.cmp_Compare_int (X.size : Int) (Y.size : Int)
      rw [compareInt_eq] at cI
      have hn : Hid (LX = cmpI (X.size : Int) (Y.size : Int)) := hid (by rw [hE.out, hl.out])
      generalize cmpI (X.size : Int) (Y.size : Int) = x at cI hn
      clear hl hE
      go_wp2_with fail
      refine (cI _).mono ?_
      rintro e w' ⟨rfl, rfl⟩
      go_wp2_with fail
      refine (cS _).mono ?_
      rintro e w' ⟨rfl, rfl⟩
      go_wp2_with fail
      refine (or_any _ _ x y _ (by rw [Lib.cell_of_heap (heap_alloc_new _ _)]; rfl) (by rw [Lib.cell_of_heap (heap_alloc_new _ _)]; rfl)).mono ?_
      rintro e w' ⟨rfl, rfl⟩
      go_wp2
      go_ret
      rw [hn.out]
      exact ⟨rfl, hB.out.alloc hB.out.size _⟩
end Go.Proofs.YtldnbneblpebiaaGreatDoor
