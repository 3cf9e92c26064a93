/-
  Natural order once more: the program's Compare, with what it draws. Conditions: the strings fit into memory.
-/
import Derived.Test.YtlgmanbilaminaaGreatDoorMN04
import Derived.Lib.QuietBelow
set_option linter.unusedVariables false
namespace Go.Proofs.YtlgmanbilaminaaGreatDoor.S12
open Go Go.Proofs Go.RowKit Go.Lib Go.Proofs.YtlgmanbilaminaaGreatDoor.S3
structure Grw (B : Nat) (w w' : World) : Prop where
  b : Below B w w'
  d : w.drawn ≤ w'.drawn
theorem Grw.refl (B : Nat) (w : World) : Grw B w w := ⟨Below.refl _ _, Nat.le_refl _⟩
theorem Grw.size {B : Nat} {w w' : World} (h : Grw B w w') : w.heap.size ≤ w'.heap.size := h.b.size
theorem Grw.trans {B : Nat} {a b c : World} (h : Grw B a b) (k : Grw B b c) : Grw B a c := ⟨h.b.trans k.b, Nat.le_trans h.d k.d⟩
theorem Grw.mono {B B' : Nat} {a b : World} (h : Grw B a b) (hB : B' ≤ B) : Grw B' a b := ⟨h.b.mono hB, h.d⟩
theorem Grw.alloc {B : Nat} {a w : World} (h : Grw B a w) (hB : B ≤ w.heap.size) (o : Obj) : Grw B a (w.alloc o) := ⟨h.b.alloc hB o, h.d⟩
theorem Grw.drew {B : Nat} {a w : World} (h : Grw B a w) : Grw B a w.drew := ⟨h.b.drew, Nat.le_succ_of_le h.d⟩
theorem grw_drewN {B : Nat} {a w : World} (h : Grw B a w) : ∀ q, Grw B a (w.drewN q)
  | 0 => h
  | q + 1 => (grw_drewN h q).drew
theorem grw_grown {w w' : World} (h : Grw w.heap.size w w') : ∃ q os, w' = Go.Sort.grow (w.drewN q) os := by
  obtain ⟨p, hp⟩ := regrown_of_below h.b
  refine ⟨w'.drawn - w.drawn, p.os, ?_⟩
  have hd := h.d
  have e : w'.drawn = p.d := by rw [hp]; rfl
  have e2 : redrawn w p.d = w.drewN (w'.drawn - w.drawn) := by
    unfold redrawn World.drewN
    congr 1
    omega
  rw [← e2]
  exact hp
def CutOut (s : ByteArray) (w : World) (e : Ending) (w' : World) : Prop :=
  (∃ X Y : ByteArray, e = .returned (.tuple #[.string X, .string Y]) ∧ lst X = (lst s).take (elemN (lst s)) ∧ lst Y = (lst s).drop (elemN (lst s))) ∧ Grw w.heap.size w w'
set_option maxHeartbeats 4000000 in
set_option maxRecDepth 100000 in
theorem cutElement_any (s : ByteArray) (h0 : 0 < s.size) (hs : s.size ≤ 9223372036854775807) (w : World) : Calls Tryz.prog 78 #[.string s] w (CutOut s w) := by
  have hl0 : 0 < (lst s).length := by rw [← Lib.size_eq]; exact h0
  have cE := endOf_any (s[0]'h0)
  have hst := fun k hk h => elemN_step (lst s) hl0 k hk h
  have hsp := fun k hk h => elemN_stop (lst s) hl0 k hk h
  rw [show (lst s)[0] = s[0]'h0 from rfl] at hst hsp
  obtain ⟨x0, hx0⟩ : ∃ x, s[0]'h0 = x := ⟨_, rfl⟩
  rw [hx0] at cE
  rw [show dg (s[0]'h0) = dg x0 by rw [hx0]] at hst hsp
  obtain ⟨d, hd⟩ : ∃ d, dg x0 = d := ⟨_, rfl⟩
  rw [hd] at cE hst hsp
  have HST := hid hst
  have HSP := hid hsp
  clear hst hsp hd
  go_enter Tryz.func78, Tryz.ntmps78
  go_wp2_with fail
  refine (cE _).mono ?_
  rintro e w1 ⟨rfl, hw1⟩
  have hb1 : Grw w.heap.size w w1 := by rw [hw1]; exact (Grw.refl _ w).alloc (Nat.le_refl _) _
  have hc1 : w1.cell? ⟨w.heap.size, 0, none⟩ = some (.bool d) := by rw [hw1, Lib.cell_of_heap (heap_alloc_new w _)]; rfl
  have HB := hid hb1
  clear hw1 hb1 cE hx0
  go_wp2
  go_loopw [2, 3, 5, 11] (fun _ _ _ i wr => ∃ (k q : Nat), k ≤ s.size ∧ i = .int .i64 (k : Int) ∧ Hid (k ≤ elemN (lst s)) ∧ wr = w1.drewN q) (fun _ _ _ i _ => s.size - (RowKit.intOf i).toNat)
  case atStart => exact ⟨0, 0, Nat.zero_le _, rfl, hid (Nat.zero_le _), rfl⟩
  case round =>
    obtain ⟨k, q, hk, rfl, hle, rfl⟩ := hrel
    by_cases hlt : k < s.size
    · have hltz : (k : Int) < (s.size : Int) := by omega
      have hlt' : k < (lst s).length := by rw [← Lib.size_eq]; exact hlt
      have h1 := HST.out k hlt' hle.out
      have h2 := HSP.out k hlt' hle.out
      have e1 : (lst s)[k] = s[k]'hlt := rfl
      rw [e1] at h1 h2
      obtain ⟨x, hx⟩ : ∃ x, s[k]'hlt = x := ⟨_, rfl⟩
      rw [hx] at h1 h2
      have hcq : (w1.drewN q).cell? ⟨w.heap.size, 0, none⟩ = some (.bool d) := hc1
      have cN := ended_any x w.heap.size d (w1.drewN q) hcq
      have H1 := hid h1
      have H2 := hid h2
      clear h1 h2 e1
      cases hdx : (dg x != d) with
      | true =>
        have hN : Hid (elemN (lst s) = k) := hid (H2.out (by simpa using hdx))
        rw [hdx] at cN
        have CN := hid cN
        clear hdx cN H1 H2 hcq
        have hkz : (0 : Int) ≤ (k : Int) := by omega
        have hkz2 : (k : Int) ≤ (s.size : Int) := by omega
        go_wp2_with fail
        refine CN.out.mono ?_
        rintro e w2 ⟨rfl, q', rfl⟩
        go_wp2
        go_quiet (fail)
        go_wp2
        go_ret2
        unfold CutOut
        refine ⟨⟨_, _, rfl, ?_, ?_⟩, ?_⟩
        · rw [lst_extract, hN.out]; simp
        · rw [lst_extract, hN.out, List.take_of_length_le (by rw [← Lib.size_eq]; exact Nat.le_refl _)]
        · exact grw_drewN (grw_drewN HB.out _) _
      | false =>
        have hN : Hid (k + 1 ≤ elemN (lst s)) := hid (H1.out (by simpa using hdx))
        rw [hdx] at cN
        have CN := hid cN
        clear hdx cN H1 H2 hcq
        go_wp2_with fail
        refine CN.out.mono ?_
        rintro e w2 ⟨rfl, q', rfl⟩
        rw [World.drewN_drewN]
        go_wp2
        go_roundw
        case rel => exact ⟨k + 1, q + q', by omega, by go_num, hN, rfl⟩
        case measure => simp [RowKit.intOf]; omega
    · have hltz : ¬ (k : Int) < (s.size : Int) := by omega
      have hN : Hid (elemN (lst s) = (lst s).length) := hid (by
        have := elemN_le (lst s)
        have h2 := hle.out
        have e : s.size = (lst s).length := Lib.size_eq s
        omega)
      go_wp2
      go_ret2
      unfold CutOut
      refine ⟨⟨_, _, rfl, ?_, ?_⟩, grw_drewN HB.out _⟩
      · rw [hN.out, List.take_of_length_le (Nat.le_refl _)]
      · rw [hN.out, List.drop_of_length_le (Nat.le_refl _)]
set_option maxHeartbeats 2000000 in
set_option maxRecDepth 100000 in
theorem compareNumbers_any (a b : ByteArray) (ha : a.size ≤ 9223372036854775807) (hb : b.size ≤ 9223372036854775807) (w : World) :
    Calls Tryz.prog 115 #[.string a, .string b] w fun e w' => e = .returned (.int .i64 (orI (cmpI ((bareS (lst a)).length : Int) ((bareS (lst b)).length : Int)) (compareBytes (bareS (lst a)) (bareS (lst b))))) ∧ Grw w.heap.size w w' := by
  obtain ⟨A, hA⟩ : ∃ A : ByteArray, ⟨(Lib.trimLeftB (lst a) 48).toArray⟩ = A := ⟨_, rfl⟩
  obtain ⟨B, hB⟩ : ∃ B : ByteArray, ⟨(Lib.trimLeftB (lst b) 48).toArray⟩ = B := ⟨_, rfl⟩
  have eA : bareS (lst a) = lst A := by rw [← hA]; rfl
  have eB : bareS (lst b) = lst B := by rw [← hB]; rfl
  have dl : ∀ (l : Str), (bareS l).length ≤ l.length := fun l => (List.dropWhile_sublist _).length_le
  have sA : A.size ≤ 9223372036854775807 := by
    have := dl (lst a)
    rw [eA] at this
    rw [Lib.size_eq] at ha ⊢
    exact Nat.le_trans this ha
  have sB : B.size ≤ 9223372036854775807 := by
    have := dl (lst b)
    rw [eB] at this
    rw [Lib.size_eq] at hb ⊢
    exact Nat.le_trans this hb
  have c1 := Tryz.strings_TrimLeft_one a 48 (by decide)
  have c2 := Tryz.strings_TrimLeft_one b 48 (by decide)
  rw [show (⟨(Lib.trimLeftB a.data.toList 48).toArray⟩ : ByteArray) = A from hA] at c1
  rw [show (⟨(Lib.trimLeftB b.data.toList 48).toArray⟩ : ByteArray) = B from hB] at c2
  rw [eA, eB, show (lst A).length = A.size from (Lib.size_eq A).symm, show (lst B).length = B.size from (Lib.size_eq B).symm]
  clear hA hB eA eB dl
  have c3 := Tryz.cmp_Compare_int (A.size : Int) (B.size : Int)
  rw [compareInt_eq] at c3
  have c4 := Tryz.strings_Compare A B
  generalize cmpI (A.size : Int) (B.size : Int) = x at c3 ⊢
  rw [show compareBytes A.data.toList B.data.toList = compareBytes (lst A) (lst B) from rfl] at c4
  generalize compareBytes (lst A) (lst B) = y at c4 ⊢
  go_enter Tryz.func115, Tryz.ntmps115
  go_wp2_with fail
  refine (c1 _).mono ?_
  rintro e w' ⟨rfl, rfl⟩
  go_wp2_with fail
  refine (c2 _).mono ?_
  rintro e w' ⟨rfl, rfl⟩
  go_wp2_with fail
  refine (c3 _).mono ?_
  rintro e w' ⟨rfl, rfl⟩
  go_wp2_with fail
  refine (c4 _).mono ?_
  rintro e w' ⟨rfl, rfl⟩
  go_wp2_with fail
  refine (or_any _ _ x y _ (by rw [Lib.cell_of_heap (heap_alloc_new _ _)]; rfl) (by rw [Lib.cell_of_heap (heap_alloc_new _ _)]; rfl)).mono ?_
  rintro e w' ⟨rfl, rfl⟩
  go_wp2
  go_ret
  exact ⟨rfl, (Grw.refl _ _).alloc (Nat.le_refl _) _⟩
set_option maxHeartbeats 2000000 in
set_option maxRecDepth 100000 in
theorem compareElements_any (a b : ByteArray) (ha0 : 0 < a.size) (hb0 : 0 < b.size) (ha : a.size ≤ 9223372036854775807) (hb : b.size ≤ 9223372036854775807) (w : World) :
    Calls Tryz.prog 79 #[.string a, .string b] w fun e w' => e = .returned (.int .i64 (cmpE (lst a) (lst b))) ∧ Grw w.heap.size w w' := by
  have na := numS_eq a ha0
  have nb := numS_eq b hb0
  have cA := isDigit_any (a[0]'ha0)
  have cB := isDigit_any (b[0]'hb0)
  obtain ⟨x, hx⟩ : ∃ x, a[0]'ha0 = x := ⟨_, rfl⟩
  obtain ⟨y, hy⟩ : ∃ y, b[0]'hb0 = y := ⟨_, rfl⟩
  rw [hx] at na cA
  rw [hy] at nb cB
  have eT := cmpE_texts (lst a) (lst b)
  have eN := cmpE_nums' (lst a) (lst b)
  have eX := cmpE_num (lst a) (lst b)
  have eY := cmpE_other (lst a) (lst b)
  have cN := compareNumbers_any a b ha hb
  have cS := Tryz.strings_Compare a b
  obtain ⟨R, hR⟩ : ∃ R, cmpE (lst a) (lst b) = R := ⟨_, rfl⟩
  rw [hR] at eT eN eX eY ⊢
  clear hR
  rw [na, nb] at eT eN eX eY
  clear na nb
  cases hdx : dg x <;> cases hdy : dg y <;> rw [hdx] at cA eT eN eX eY <;> rw [hdy] at cB eT eN eX eY <;> clear hdx hdy
  · have hr := hid (eT rfl rfl)
    clear eT eN eX eY cN
    go_enter Tryz.func79, Tryz.ntmps79
    go_wp2
    go_quiet ((first | (go_at_call_of 99 x.toNat; with_reducible refine Calls.quiet_of_same ((cA _).mono fun _ _ h => ⟨h.1, h.2.symm⟩)) | (go_at_call_of 99 y.toNat; with_reducible refine Calls.quiet_of_same ((cB _).mono fun _ _ h => ⟨h.1, h.2.symm⟩))))
    go_wp2_with fail
    refine (cS _).mono ?_
    rintro e w' ⟨rfl, rfl⟩
    go_wp2
    go_ret
    rw [hr.out]
    exact ⟨rfl, grw_drewN (Grw.refl _ _) _⟩
  · have hr := hid (eY rfl rfl)
    clear eT eN eX eY cN cS
    go_enter Tryz.func79, Tryz.ntmps79
    go_wp2
    go_quiet ((first | (go_at_call_of 99 x.toNat; with_reducible refine Calls.quiet_of_same ((cA _).mono fun _ _ h => ⟨h.1, h.2.symm⟩)) | (go_at_call_of 99 y.toNat; with_reducible refine Calls.quiet_of_same ((cB _).mono fun _ _ h => ⟨h.1, h.2.symm⟩))))
    go_wp2
    go_ret
    rw [hr.out]
    exact ⟨rfl, grw_drewN (Grw.refl _ _) _⟩
  · have hr := hid (eX rfl rfl)
    clear eT eN eX eY cN cS
    go_enter Tryz.func79, Tryz.ntmps79
    go_wp2
    go_quiet ((first | (go_at_call_of 99 x.toNat; with_reducible refine Calls.quiet_of_same ((cA _).mono fun _ _ h => ⟨h.1, h.2.symm⟩)) | (go_at_call_of 99 y.toNat; with_reducible refine Calls.quiet_of_same ((cB _).mono fun _ _ h => ⟨h.1, h.2.symm⟩))))
    go_wp2
    go_ret
    rw [hr.out]
    exact ⟨rfl, grw_drewN (Grw.refl _ _) _⟩
  · have hr := hid (eN rfl rfl)
    clear eT eN eX eY cS
    have CN := hid cN
    clear cN
    go_enter Tryz.func79, Tryz.ntmps79
    go_wp2
    go_quiet ((first | (go_at_call_of 99 x.toNat; with_reducible refine Calls.quiet_of_same ((cA _).mono fun _ _ h => ⟨h.1, h.2.symm⟩)) | (go_at_call_of 99 y.toNat; with_reducible refine Calls.quiet_of_same ((cB _).mono fun _ _ h => ⟨h.1, h.2.symm⟩))))
    go_wp2_with fail
    refine (CN.out _).mono ?_
    rintro e w' ⟨rfl, hbw⟩
    have HB := hid (Grw.trans (grw_drewN (Grw.refl w.heap.size w) nq) (hbw.mono (Nat.le_refl _)))
    clear hbw
    go_wp2
    go_ret
    rw [hr.out]
    exact ⟨rfl, HB.out⟩
set_option maxHeartbeats 4000000 in
set_option maxRecDepth 100000 in
theorem compare_any (a b : ByteArray) (ha : a.size ≤ 9223372036854775807) (hb : b.size ≤ 9223372036854775807) (w : World) :
    Calls Tryz.prog 48 #[.string a, .string b] w fun e w' => e = .returned (.int .i64 (cmpM (lst a) (lst b))) ∧ Grw w.heap.size w w' := by
  rw [cmpM_or]
  obtain ⟨LX, hLX⟩ : ∃ x, lexC cmpE (elems (lst a)) (elems (lst b)) = x := ⟨_, rfl⟩
  have cS := Tryz.strings_Compare a b
  rw [show compareBytes a.data.toList b.data.toList = compareBytes (lst a) (lst b) from rfl] at cS
  obtain ⟨y, hy⟩ : ∃ y, compareBytes (lst a) (lst b) = y := ⟨_, rfl⟩
  rw [hy] at cS ⊢
  rw [hLX]
  have HLX := hid hLX
  clear hLX hy
  go_enter Tryz.func48, Tryz.ntmps48
  go_wp2
  go_loopw [5, 6, 7, 8, 9] (fun xv yv _ _ _ wr => ∃ X Y : ByteArray, xv = .string X ∧ yv = .string Y ∧ X.size ≤ a.size ∧ Y.size ≤ b.size ∧ Hid (LX = lexC cmpE (elems (lst X)) (elems (lst Y))) ∧ Hid (Grw w.heap.size w wr)) (fun xv _ _ _ _ _ => S3.strSize xv)
  case atStart => exact ⟨a, b, rfl, rfl, Nat.le_refl _, Nat.le_refl _, hid HLX.out.symm, hid (Grw.refl _ _)⟩
  case round =>
    obtain ⟨X, Y, rfl, rfl, hXs, hYs, hE, hB⟩ := hrel
    by_cases hx : 0 < X.size
    · by_cases hy : 0 < Y.size
      · have cX := cutElement_any X hx (by omega) wr
        have CX := hid cX
        have CY := hid (fun w => cutElement_any Y hy (by omega) w)
        have hst := hid (lex_step (lst X) (lst Y) (lst_ne hx) (lst_ne hy))
        have pX := elemN_pos _ (lst_ne hx)
        have pY := elemN_pos _ (lst_ne hy)
        have lX := elemN_le (lst X)
        have lY := elemN_le (lst Y)
        rw [show (lst X).length = X.size from (Lib.size_eq X).symm] at lX
        rw [show (lst Y).length = Y.size from (Lib.size_eq Y).symm] at lY
        obtain ⟨x1, x2, x3, _⟩ := str_no hx
        obtain ⟨y1, y2, y3, _⟩ := str_no hy
        clear cX
        go_wp2_with fail
        refine CX.out.mono ?_
        rintro e w1 ⟨⟨P, X', rfl, hP, hX'⟩, hb1⟩
        have sP : P.size = elemN (lst X) := by rw [Lib.size_eq, show P.data.toList = _ from hP, List.length_take, show (lst X).length = X.size from (Lib.size_eq X).symm]; omega
        have sX' : X'.size = X.size - elemN (lst X) := by rw [Lib.size_eq, show X'.data.toList = _ from hX', List.length_drop, show (lst X).length = X.size from (Lib.size_eq X).symm]
        have HP := hid hP
        have HX' := hid hX'
        have HB1 := hid (hB.out.trans (hb1.mono hB.out.size))
        have hP0 : 0 < P.size := by omega
        have hPs : P.size ≤ 9223372036854775807 := by omega
        have hXl : X'.size < X.size := by omega
        clear hP hX' hb1 hB x1 x2 x3 y1 y2 y3
        go_wp2_with fail
        refine (CY.out _).mono ?_
        rintro e w2 ⟨⟨Q, Y', rfl, hQ, hY'⟩, hb2⟩
        have sQ : Q.size = elemN (lst Y) := by rw [Lib.size_eq, show Q.data.toList = _ from hQ, List.length_take, show (lst Y).length = Y.size from (Lib.size_eq Y).symm]; omega
        have sY' : Y'.size = Y.size - elemN (lst Y) := by rw [Lib.size_eq, show Y'.data.toList = _ from hY', List.length_drop, show (lst Y).length = Y.size from (Lib.size_eq Y).symm]
        have HQ := hid hQ
        have HY' := hid hY'
        have HB2 := hid (HB1.out.trans (hb2.mono HB1.out.size))
        have hQ0 : 0 < Q.size := by omega
        have hQs : Q.size ≤ 9223372036854775807 := by omega
        have hYl : Y'.size < Y.size := by omega
        clear hQ hY' hb2 sP sX' sQ sY' HB1
        go_wp2_with fail
        refine (compareElements_any P Q hP0 hQ0 hPs hQs _).mono ?_
        rintro e w3 ⟨rfl, hb3⟩
        have HB3 := hid (HB2.out.trans (hb3.mono HB2.out.size))
        clear hb3 HB2
        have hc : Hid (LX = if cmpE (lst P) (lst Q) = 0 then lexC cmpE (elems (lst X')) (elems (lst Y')) else cmpE (lst P) (lst Q)) := hid (by rw [hE.out, hst.out, HP.out, HQ.out, HX'.out, HY'.out])
        generalize cmpE (lst P) (lst Q) = c at hc ⊢
        by_cases h0 : c = 0
        · have hz : ((c : Int) != 0) = false := by simp [h0]
          have hn : Hid (LX = lexC cmpE (elems (lst X')) (elems (lst Y'))) := hid (by rw [hc.out, if_pos h0])
          clear h0 hc
          go_wp2
          go_roundw
          case rel => exact ⟨X', Y', rfl, rfl, by omega, by omega, hn, HB3⟩
          case measure => exact hXl
        · have hz : ((c : Int) != 0) = true := by simpa using h0
          have hn : Hid (orI LX y = c) := hid (by rw [hc.out, if_neg h0]; exact if_neg h0)
          clear h0 hc
          go_wp2
          go_ret
          rw [hn.out]
          exact ⟨rfl, HB3.out⟩
      · have hl := hid (lex_end X Y (.inr hy))
        obtain ⟨x1, x2, x3, _⟩ := str_no hx
        obtain ⟨y1, y2, y3, _⟩ := str_yes hy
        have cI := Tryz.cmp_Compare_int (X.size : Int) (Y.size : Int)
        rw [compareInt_eq] at cI
        have hn : Hid (LX = cmpI (X.size : Int) (Y.size : Int)) := hid (by rw [hE.out, hl.out])
        generalize cmpI (X.size : Int) (Y.size : Int) = x at cI hn
        clear hl hE
        go_wp2_with fail
        refine (cI _).mono ?_
        rintro e w' ⟨rfl, rfl⟩
        go_wp2_with fail
        refine (cS _).mono ?_
        rintro e w' ⟨rfl, rfl⟩
        go_wp2_with fail
        refine (or_any _ _ x y _ (by rw [Lib.cell_of_heap (heap_alloc_new _ _)]; rfl) (by rw [Lib.cell_of_heap (heap_alloc_new _ _)]; rfl)).mono ?_
        rintro e w' ⟨rfl, rfl⟩
        go_wp2
        go_ret
        rw [hn.out]
        exact ⟨rfl, hB.out.alloc hB.out.size _⟩
    · have hl := hid (lex_end X Y (.inl hx))
      obtain ⟨x1, x2, x3, _⟩ := str_yes hx
      have cI := Tryz.cmp_Compare_int (X.size : Int) (Y.size : Int)
      rw [compareInt_eq] at cI
      have hn : Hid (LX = cmpI (X.size : Int) (Y.size : Int)) := hid (by rw [hE.out, hl.out])
      generalize cmpI (X.size : Int) (Y.size : Int) = x at cI hn
      clear hl hE
      go_wp2_with fail
      refine (cI _).mono ?_
      rintro e w' ⟨rfl, rfl⟩
      go_wp2_with fail
      refine (cS _).mono ?_
      rintro e w' ⟨rfl, rfl⟩
      go_wp2_with fail
      refine (or_any _ _ x y _ (by rw [Lib.cell_of_heap (heap_alloc_new _ _)]; rfl) (by rw [Lib.cell_of_heap (heap_alloc_new _ _)]; rfl)).mono ?_
      rintro e w' ⟨rfl, rfl⟩
      go_wp2
      go_ret
      rw [hn.out]
      exact ⟨rfl, hB.out.alloc hB.out.size _⟩
end Go.Proofs.YtlgmanbilaminaaGreatDoor.S12
