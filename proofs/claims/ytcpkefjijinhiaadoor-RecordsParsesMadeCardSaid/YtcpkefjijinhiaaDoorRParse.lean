/-
  The reference's Parse of layer 2 returns what parseM says. Conditions: none (the field's contract is a hypothesis).
-/
import Derived.Test.YtcpkefjijinhiaaDoorRRec
import Derived.Test.YtcpkefjijinhiaaDoorCParse
set_option linter.unusedVariables false
namespace Go.Proofs.YtcpkefjijinhiaaDoor
open Go Go.Proofs Go.RowKit Go.Lib

theorem grownT {w2 wq : World} {o : Obj} {lv : Value} {B n T0 z0 : Nat} {xs : List Value} (hF : w2.ownsRow B T0 z0 lv n xs) (hg : (w2.alloc o).grownBy wq lv.ownBlock) {j : Nat} {c : Array Value} {T : TypeId} {fz : Nat × Nat} (hj : w2.heap[j]? = some (.cells c T fz)) (hT : T ≠ T0) :
    wq.heap[j]? = some (.cells c T fz) := by
  have hlt := (Array.getElem?_eq_some_iff.1 hj).1
  have h1 : (w2.alloc o).heap.size = w2.heap.size + 1 := by simp
  exact (hg.block j (by rw [h1]; omega) (fun e => row_ne hF hj hT e.symm)).trans ((Below.heap_alloc _ _ _ hlt).trans hj)
theorem grownT_below {w2 wq : World} {o : Obj} {lv : Value} {B n T0 z0 : Nat} {xs : List Value} (hF : w2.ownsRow B T0 z0 lv n xs) (hg : (w2.alloc o).grownBy wq lv.ownBlock) (hB : B ≤ w2.heap.size) : Below B w2 wq := by
  have h1 : (w2.alloc o).heap.size = w2.heap.size + 1 := by simp
  exact ((Below.refl B w2).alloc hB _).grown hg (by rw [h1]; omega) (fun k hk => (World.ownsRow.lt hF k hk).1)
theorem grownT_row {w2 wq : World} {o : Obj} {lv : Value} {B n T0 z0 : Nat} {xs : List Value} (hF : w2.ownsRow B T0 z0 lv n xs) (hg : (w2.alloc o).grownBy wq lv.ownBlock) {B' e z m : Nat} {v : Value} {ys : List Value} (h : w2.ownsRow B' e z v m ys) (he : e ≠ T0) : wq.ownsRow B' e z v m ys := by
  refine ⟨h.1, ?_⟩
  rcases h.2 with h2 | ⟨k, cap, cur, hk, hb, hh, r⟩
  · exact .inl h2
  · exact .inr ⟨k, cap, cur, hk, hb, grownT hF hg hh he, r⟩
theorem prob_oneC (x : Int) (y z : Int) : ∀ u ∈ [Value.int .i64 0, .int .i64 x, .int .i64 y, .int .i64 z], u.oneCell' = true := by
  intro u hu
  simp at hu
  rcases hu with rfl | rfl | rfl | rfl <;> rfl
/-- The reader's places at the beginning of a line, as the reference has them. -/
def StartAt (w : World) (g : Nat) (S : ByteArray) (a : Nat) : Prop := ∃ l b, ReaderAt w g S a l b ∧ (a < S.size → l = lineOf (lst S) a ∧ b = a ∧ begOf (lst S) a = a)
theorem StartAt.rdr {w : World} {g a : Nat} {S : ByteArray} (h : StartAt w g S a) (hlt : a < S.size) : RdrAt w g S a := by
  obtain ⟨l, b, hR, hp⟩ := h
  obtain ⟨rfl, rfl, hb⟩ := hp hlt
  unfold RdrAt
  rw [hb]
  exact hR
theorem next_start (g a : Nat) (S : ByteArray) (w : World) (h : RdrAt w g S a) :
    Calls Tryd.prog 45 #[.pointer (some ⟨g, 0, none⟩)] w fun e w' => e = .returned (.tuple #[]) ∧ StartAt w' g S (nxt (lst S) a) ∧ Rolled g w w' := by
  refine (next37_any g a _ _ S w h (lineOf_le _ _)).mono ?_
  rintro e w' ⟨rfl, hR, hRo⟩
  rw [nextP_nxt] at hR
  refine ⟨rfl, ⟨_, _, hR, fun hlt => ?_⟩, hRo⟩
  rw [Lib.size_eq] at hlt
  exact ⟨(lineOf_nxt _ _ hlt).symm, rfl, begOf_nxt _ _ hlt⟩

set_option maxHeartbeats 4000000 in
set_option maxRecDepth 100000 in
theorem refParse_any (S : ByteArray) (D Q : UInt8) (w : World) (cF : ∀ (g a : Nat) (w : World), validB D Q = true → RdrAt w g S a → Calls Tryd.prog 60 #[.pointer (some ⟨g, 0, none⟩), .agg #[.int .u8 D.toNat, .int .u8 Q.toNat]] w (FieldOut g S w (fieldP (lst S) D Q a))) :
    Calls Tryd.prog 28 #[.string S, dialV D Q] w (ParseOut w.heap.size w (parseM D Q (lst S))) := by
  have cV := fun w => refValid_any D Q w
  have hsz : (lst S).length = S.size := by rw [← Lib.size_eq]
  obtain ⟨R, hR⟩ : ∃ R, parseM D Q (lst S) = R := ⟨_, rfl⟩
  rw [hR]
  unfold parseM at hR
  rw [hsz] at hR
  cases hv : validB D Q with
  | false =>
    rw [hv] at hR cV
    simp only [Bool.false_eq_true, if_false] at hR
    subst hR
    unfold dialV at cV ⊢
    clear hv hsz cF
    go_enter Tryd.func28, Tryd.ntmps28
    go_wp2_with fail
    refine (cV _).mono ?_
    rintro e w1 ⟨rfl, hb1⟩
    go_wp2
    go_ret2
    refine ⟨((Below.alloc (Below.refl w.heap.size w) (Nat.le_refl _) _).trans (hb1.mono (by simp))).alloc (Nat.le_trans (by simp) hb1.size) _, _, _, rfl, RecRow.nil _ _, ?_⟩
    exact one_prob (Nat.le_trans (by simp) hb1.size) ⟨0, 0, 1⟩
  | true =>
    rw [hv] at hR cV
    simp only [if_true] at hR
    by_cases hbig : 65536 < S.size
    · rw [if_pos hbig] at hR
      subst hR
      have hbz : (65536 : Int) < (S.size : Int) := by omega
      unfold dialV at cV ⊢
      clear hv hsz cF
      go_enter Tryd.func28, Tryd.ntmps28
      go_wp2_with fail
      refine (cV _).mono ?_
      rintro e w1 ⟨rfl, hb1⟩
      go_wp2
      go_ret2
      refine ⟨((Below.alloc (Below.refl w.heap.size w) (Nat.le_refl _) _).trans (hb1.mono (by simp))).alloc (Nat.le_trans (by simp) hb1.size) _, _, _, rfl, RecRow.nil _ _, ?_⟩
      exact one_prob (Nat.le_trans (by simp) hb1.size) ⟨0, 0, 2⟩
    · rw [if_neg hbig] at hR
      have hbz : ¬ (65536 : Int) < (S.size : Int) := by omega
      have hsmall : S.size ≤ 65536 := by omega
      have CF := hid (fun g a w h => cF g a w hv h)
      unfold dialV at cV ⊢
      clear hv hsz cF
      go_enter Tryd.func28, Tryd.ntmps28
      go_wp2_with fail
      refine (cV _).mono ?_
      rintro e w1 ⟨rfl, hb1⟩
      have HB1 := hid ((Below.alloc (Below.refl w.heap.size w) (Nat.le_refl _) (.cells #[.int .u8 D.toNat, .int .u8 Q.toNat] 23)).trans (hb1.mono (by simp)))
      have hbx : w1.heap[w.heap.size]? = some (.cells #[.int .u8 D.toNat, .int .u8 Q.toNat] 23 (0, 0)) := (hb1.block _ (by simp)).trans (heap_alloc_new w _)
      have hw1 : w.heap.size < w1.heap.size := Nat.lt_of_lt_of_le (by simp) hb1.size
      have HBX := hid hbx
      clear hb1 hbx
      have HB2 : Hid (Below w.heap.size w (w1.alloc (.cells #[.string S, .int .i64 0, .int .i64 1, .int .i64 0] 89))) := hid (HB1.out.alloc HB1.out.size _)
      have HX2 : Hid ((w1.alloc (.cells #[.string S, .int .i64 0, .int .i64 1, .int .i64 0] 89)).heap[w.heap.size]? = some (.cells #[.int .u8 D.toNat, .int .u8 Q.toNat] 23 (0, 0))) := hid ((Below.heap_alloc _ _ _ hw1).trans HBX.out)
      have HS2 : Hid (StartAt (w1.alloc (.cells #[.string S, .int .i64 0, .int .i64 1, .int .i64 0] 89)) w1.heap.size S 0) := hid ⟨1, 0, ⟨heap_alloc_new w1 _, Nat.zero_le _, Nat.le_refl _, by omega, hsmall⟩, fun _ => ⟨rfl, rfl, rfl⟩⟩
      have HW2 : Hid ((w1.alloc (.cells #[.string S, .int .i64 0, .int .i64 1, .int .i64 0] 89)).heap.size = w1.heap.size + 1) := hid (by simp)
      obtain ⟨i48, hi48, hz48, hsi48, hby48⟩ := info_parts infoRec
      obtain ⟨i77, hi77, hz77, hsi77, hby77⟩ := info_parts infoProb
      have HR := hid hR
      have HSM := hid hsmall
      clear HB1 HBX hR cV hsmall hbig
      go_wp2_with fail
      obtain ⟨g, hg⟩ : ∃ g, w1.heap.size = g := ⟨_, rfl⟩
      rw [hg] at HS2 HW2 hw1 ⊢
      generalize w1.alloc (.cells #[.string S, .int .i64 0, .int .i64 1, .int .i64 0] 89) = w2 at HB2 HX2 HS2 HW2 ⊢
      have HG : Hid (w.heap.size < g) := hid hw1
      clear hw1 hg
      clear hbz
      go_loopg [7, 8] (S.size + 2) (fun gk lv pv wx => ∃ (a' : Nat) (out : List Rec) (bad : List Prob), Hid (StartAt wx g S a') ∧ Hid (wx.heap[w.heap.size]? = some (.cells #[.int .u8 D.toNat, .int .u8 Q.toNat] 23 (0, 0))) ∧ Hid (ProbRow wx w.heap.size pv bad) ∧ Hid (RecRow wx w.heap.size lv out) ∧ Hid (Below w.heap.size w wx) ∧ Hid (g < wx.heap.size) ∧ out.length ≤ 400 ∧ bad.length ≤ a' ∧ a' ≤ S.size ∧ Hid (parseR (lst S) D Q a' out bad = R) ∧ S.size - a' < gk)
      case atStart => exact ⟨0, [], [], HS2, HX2, hid (World.ownsRow_nil _ _ _ _), hid (RecRow.nil _ _), HB2, hid (by have := HW2.out; omega), by simp, by simp, by omega, HR, by omega⟩
      case round =>
        obtain ⟨a', out, bad, hS, hX, hP, hL, hB, hgs, ho, hbd, hale, hE, hgk⟩ := hrel
        obtain ⟨g', rfl⟩ : ∃ g', gk = g' + 1 := ⟨gk - 1, by omega⟩
        clear HB2 HX2 HS2 HW2 HR
        obtain ⟨l, b, hRd, hpl⟩ := hS.out
        have hc0 := ReaderAt.c0 hRd
        have hc1 := ReaderAt.c1 hRd
        by_cases hlt : a' < S.size
        · have hltz : (a' : Int) < (S.size : Int) := by omega
          obtain ⟨hl', hb', hbo⟩ := hpl hlt
          subst hl'
          have hb'' := hb'.symm
          subst hb''
          have hltL : a' < (lst S).length := by rw [← Lib.size_eq]; exact hlt
          have HNX : Hid (a' < nxt (lst S) a' ∧ nxt (lst S) a' ≤ S.size) := hid ⟨nxt_gt _ _ hltL, by have := nxt_le (lst S) a' (by omega); rwa [← Lib.size_eq] at this⟩
          have HSK := hid (parseR_skip (lst S) D Q a' out bad hltL)
          have hRd0 : RdrAt wr g S a' := hS.out.rdr hlt
          have HRD0 := hid hRd0
          have HBO := hid hbo
          have HLTL := hid hltL
          clear hpl hRd hRd0 hbo hltL hS
          go_wp2_with fail
          go_quiet (fail)
          have HRD := hid (HRD0.out.drawn nq)
          have hX := hid (show (wr.drewN nq).heap[w.heap.size]? = _ from (drewN_heap wr nq _).trans hX.out)
          have hP := hid (row_drawn hP.out nq)
          have hL := hid (hL.out.map (fun _ _ _ ho => row_drawn ho nq) (fun _ _ hf => row_drawn hf nq) (w' := wr.drewN nq))
          have hB := hid (hB.out.trans (below_drewNg _ nq _))
          have hgs := hid (show g < (wr.drewN nq).heap.size by rw [(Rolled.drawn 0 wr nq).size]; exact hgs.out)
          clear HRD0 hc0 hc1
          generalize wr.drewN nq = w5 at HRD hX hP hL hB hgs ⊢
          have hc0 := ReaderAt.c0 HRD.out
          have hc1 := ReaderAt.c1 HRD.out
          have cE := fun n => ended_any g a' _ _ S (w5.drewN n) (HRD.out.drawn n)
          obtain ⟨bl, hbl⟩ : ∃ bl, endL ((lst S).drop a') = bl := ⟨_, rfl⟩
          have cE' : ∀ n, Calls Tryd.prog 44 #[.pointer (some ⟨g, 0, none⟩)] (w5.drewN n) fun e w' => e = .returned (.bool bl) ∧ ∃ q, w' = (w5.drewN n).drewN q := by
            intro n
            rw [← hbl]
            exact cE n
          clear cE
          have hbd : bl = true ∨ (bl = false ∧ ∃ x : Nat, (S[a']'hlt).toNat = x ∧ (x = 35 ∨ x ≠ 35)) := by
            cases bl with
            | true => exact .inl rfl
            | false => exact .inr ⟨rfl, _, rfl, Decidable.em _⟩
          have hhead : (lst S).drop a' = S[a']'hlt :: (lst S).drop (a' + 1) := drop_at S a' hlt
          have HBL := hid hbl
          have HHEAD := hid hhead
          clear hbl hhead
          go_wp2_with fail
          rcases hbd with rfl | ⟨rfl, x, hx, hD' | hD'⟩
          · go_quiet ((go_at_call 44; with_reducible refine Calls.quiet_of (cE' _)))
            go_wp2_with fail
            refine (next_start g a' S _ (HRD.out.drawn _)).mono ?_
            rintro e w7 ⟨rfl, hS7, hR7⟩
            have hE7 := (HSK.out (.inl HBL.out)).symm.trans hE.out
            have hr7 := (Rolled.drawn g w5 nq).trans hR7
            have hX7 := hid ((hr7.block _ (by have := HG.out; omega)).trans hX.out)
            have hP7 := hid (hr7.row hP.out (prob_ne hP.out HRD.out.cells (by decide)))
            have hL7 := hid (hL.out.map (fun _ _ _ ho => hr7.row ho (row_ne ho HRD.out.cells (by decide))) (fun _ _ hf => hr7.row hf (row_ne hf HRD.out.cells (by decide))))
            have hB7 := hid (hB.out.trans (hr7.below (by have := HG.out; omega)))
            have hg7 := hid (show g < w7.heap.size by rw [hr7.size]; exact hgs.out)
            have hS7' := hid hS7
            have hE7' := hid hE7
            clear hS7 hR7 hr7 hE7 hX hP hL hB hgs hE
            go_wp2
            go_roundg g'
            case measure => omega
            case rel => exact ⟨nxt (lst S) a', out, bad, hS7', hX7, hP7, hL7, hB7, hg7, ho, by have := HNX.out.1; omega, HNX.out.2, hE7', by have := HNX.out.1; omega⟩
          · subst hD'
            skip
            go_quiet ((go_at_call 44; with_reducible refine Calls.quiet_of (cE' _)))
            go_wp2_with fail
            refine (next_start g a' S _ (HRD.out.drawn _)).mono ?_
            rintro e w7 ⟨rfl, hS7, hR7⟩
            have hE7 := (HSK.out (.inr (by rw [HHEAD.out]; simp only [List.head?_cons]; exact congrArg some (UInt8.toNat_inj.1 hx)))).symm.trans hE.out
            have hr7 := (Rolled.drawn g w5 nq).trans hR7
            have hX7 := hid ((hr7.block _ (by have := HG.out; omega)).trans hX.out)
            have hP7 := hid (hr7.row hP.out (prob_ne hP.out HRD.out.cells (by decide)))
            have hL7 := hid (hL.out.map (fun _ _ _ ho => hr7.row ho (row_ne ho HRD.out.cells (by decide))) (fun _ _ hf => hr7.row hf (row_ne hf HRD.out.cells (by decide))))
            have hB7 := hid (hB.out.trans (hr7.below (by have := HG.out; omega)))
            have hg7 := hid (show g < w7.heap.size by rw [hr7.size]; exact hgs.out)
            have hS7' := hid hS7
            have hE7' := hid hE7
            clear hS7 hR7 hr7 hE7 hX hP hL hB hgs hE
            go_wp2
            go_roundg g'
            case measure => omega
            case rel => exact ⟨nxt (lst S) a', out, bad, hS7', hX7, hP7, hL7, hB7, hg7, ho, by have := HNX.out.1; omega, HNX.out.2, hE7', by have := HNX.out.1; omega⟩
          · have hne : ((x : Int) == 35) = false := by simp; omega
            have hnot : ¬ (endL ((lst S).drop a') = true ∨ ((lst S).drop a').head? = some 35) := by
              rw [HBL.out, HHEAD.out]
              simp only [Bool.false_eq_true, false_or, List.head?_cons]
              intro h
              injection h with h
              exact hD' (by rw [← hx, h]; rfl)
            go_quiet ((go_at_call 44; with_reducible refine Calls.quiet_of (cE' _)))
            have HRD := hid (HRD.out.drawn nq)
            have hX := hid (show (w5.drewN nq).heap[w.heap.size]? = _ from (drewN_heap w5 nq _).trans hX.out)
            have hP := hid (row_drawn hP.out nq)
            have hL := hid (hL.out.map (fun _ _ _ ho => row_drawn ho nq) (fun _ _ hf => row_drawn hf nq) (w' := w5.drewN nq))
            have hB := hid (hB.out.trans (below_drewNg _ nq _))
            have hgs := hid (show g < (w5.drewN nq).heap.size by rw [(Rolled.drawn 0 w5 nq).size]; exact hgs.out)
            clear hc0 hc1 cE'
            generalize w5.drewN nq = w6 at HRD hX hP hL hB hgs ⊢
            have hfl := parseR_full (lst S) D Q a' out bad HLTL.out hnot
            have hok := parseR_ok (lst S) D Q a' out bad HLTL.out hnot
            have hbad := parseR_bad (lst S) D Q a' out bad HLTL.out hnot
            rw [hE.out] at hfl hok hbad
            have HOK := hid hok
            have HBAD := hid hbad
            have HFL := hid hfl
            have hrp := rec_place (lst S) D Q 12 [] a' HLTL.out
            rw [← Lib.size_eq] at hrp
            have HRP := hid hrp
            have HB6 : Hid (w.heap.size ≤ w6.heap.size) := hid hB.out.size
            obtain ⟨A6, c6, hlv⟩ := hL.out.slice
            obtain ⟨A7, c7, hpv⟩ := row_slice hP.out
            subst hlv hpv
            clear hok hbad hfl hrp hnot hE HSK
            by_cases hfull : out.length = 400
            · have hfz : ((out.length : Int) == 400) = true := by simp [hfull]
              have hRR : Hid (R = (out, bad ++ [⟨lineOf (lst S) a', 1, 2⟩])) := hid (HFL.out hfull)
              have hc2 := ReaderAt.c2 HRD.out
              have HC3 : Hid (bad.length + 1 ≤ maxLen) := by unfold maxLen; exact hid (by have := HSM.out; omega)
              have HC4 : Hid ((bad.length + 1) * 32 ≤ 140737488355328) := hid (by have := HSM.out; omega)
              have HC5 : Hid (∀ o : Obj, w.heap.size ≤ (w6.alloc o).heap.size) := hid (fun o => by have := HB6.out; simp; omega)
              have HFULL := hid hfull
              clear hfull
              go_wp2_with (at_builtin; refine wpList_append_own _ rfl _ _ 42 rfl w.heap.size 77 i77 (.agg #[.int .i64 0, .int .i64 0, .int .i64 0, .int .i64 0]) 4 32 Tryd.underlying42 hi77 hz77 hsi77 hby77 rfl (by decide) (.slice A7 bad.length c7) bad.length (probCells bad) rfl (World.ownsRow.alloc hP.out _) ⟨w6.heap.size, 0, none⟩ 1 1 [.int .i64 0, .int .i64 (lineOf (lst S) a' : Int), .int .i64 1, .int .i64 2] rfl rfl (new_cells rfl _ 77) (prob_oneC _ _ _) HC3.out HC4.out (HC5.out _) ?_)
              intro v' wq hown' hgrow _
              have hbq := grownT_below hP.out hgrow HB6.out
              have HQ1 := hid hown'
              have HQ2 := hid (hL.out.map (fun _ _ _ ho => grownT_row hP.out hgrow ho (by decide)) (fun _ _ hf => grownT_row hP.out hgrow hf (by decide)))
              have HQ3 := hid (hB.out.trans hbq)
              clear hown' hgrow hbq
              go_wp2
              go_ret2
              rw [hRR.out]
              refine ⟨HQ3.out, _, _, rfl, HQ2.out, ?_⟩
              unfold ProbRow
              rw [probCells_app, List.length_append]
              exact HQ1.out
            · have hfz : ((out.length : Int) == 400) = false := by simp; omega
              have d0 := cell_at hX.out 0
              have d1 := cell_at hX.out 1
              simp only [List.getElem?_toArray, List.getElem?_cons_zero, List.getElem?_cons_succ] at d0 d1
              go_wp2_with fail
              refine (rrec_any g a' S D Q w6 HRD.out (fun a w h => CF.out g a w h)).mono ?_
              rintro e w7 ⟨hP7, ⟨a2, hR7, hn7⟩, hm⟩
              have hst7 : w6.heap.size ≤ w7.heap.size := hP7.size
              have hX7 := (hP7.block _ (by have := HG.out; have := hgs.out; omega) (by have := HG.out; omega)).trans hX.out
              have kp : ∀ {e z n : Nat} {v : Value} {xs : List Value}, w6.ownsRow w.heap.size e z v n xs → e ≠ 89 → w7.ownsRow w.heap.size e z v n xs := fun ho he => hP7.row ho (fun k hk => ⟨(World.ownsRow.lt ho k hk).2, fun e => by subst e; exact row_ne ho HRD.out.cells (Ne.symm he) hk⟩)
              have hPr7 : ProbRow w7 w.heap.size (.slice A7 bad.length c7) bad := kp hP.out (by decide)
              have hL7 : RecRow w7 w.heap.size (.slice A6 out.length c6) out := hL.out.map (fun _ _ _ ho => kp ho (by decide)) (fun _ _ hf => kp hf (by decide))
              have hB7 := hB.out.trans (hP7.toBelow (B' := w.heap.size) HB6.out (by have := HG.out; omega))
              have hg7 : g < w7.heap.size := Nat.lt_of_lt_of_le hgs.out hst7
              have hw7 : w.heap.size ≤ w7.heap.size := hB7.size
              have H6 := HB6.out
              have HN7 := hid hn7
              clear hP7 kp hX hP hL hB hgs HRD d0 d1 hn7
              generalize recP (lst S) D Q 12 [] a' = rr at *
              cases rr with
              | ok fs x =>
                obtain ⟨fv, rfl, hF7⟩ := hm
                obtain ⟨Af, cf, rfl⟩ := row_slice hF7
                have HRP' : Hid (a' < x ∧ x ≤ S.size) := hid HRP.out
                have HNX' : Hid (nxt (lst S) a2 = x) := hid HN7.out
                have HE5 := hid (HOK.out hfull fs x rfl).symm
                clear HOK HBAD HFL HRP HN7
                go_upto_region 14 with fail
                have hb1 := Below.alloc (Below.refl w7.heap.size w7) (Nat.le_refl _) (.cells #[.int .i64 (lineOf (lst S) a' : Int), .slice Af fs.length cf] 48)
                have hs1 : (w7.alloc (.cells #[.int .i64 (lineOf (lst S) a' : Int), .slice Af fs.length cf] 48)).heap.size = w7.heap.size + 1 := by simp
                have hb2 := hb1.alloc (by rw [hs1]; omega) (.cells #[.int .i64 0, .int .i64 0, .int .i64 0, .int .i64 0] 77)
                have q9 : ((w7.alloc (.cells #[.int .i64 (lineOf (lst S) a' : Int), .slice Af fs.length cf] 48)).alloc (.cells #[.int .i64 0, .int .i64 0, .int .i64 0, .int .i64 0] 77)).heap[w7.heap.size]? = some (.cells #[.int .i64 (lineOf (lst S) a' : Int), .slice Af fs.length cf] 48 (0, 0)) := (Below.heap_alloc _ _ _ (by rw [hs1]; omega)).trans (heap_alloc_new w7 _)
                have hX8 := (hb2.block _ (by have := HG.out; omega)).trans hX7
                have hP8 := row_under hPr7 hb2
                have hL8 := hL7.under hb2
                have hF8 := row_mono (row_under hF7 hb2) H6
                have hB8 := hB7.trans (hb2.mono hw7)
                have hR8 : RdrAt _ g S a2 := (hR7.alloc (.cells #[.int .i64 (lineOf (lst S) a' : Int), .slice Af fs.length cf] 48)).alloc (.cells #[.int .i64 0, .int .i64 0, .int .i64 0, .int .i64 0] 77)
                have hg8 : g < ((w7.alloc (.cells #[.int .i64 (lineOf (lst S) a' : Int), .slice Af fs.length cf] 48)).alloc (.cells #[.int .i64 0, .int .i64 0, .int .i64 0, .int .i64 0] 77)).heap.size := Nat.lt_of_lt_of_le hg7 hb2.size
                clear hb1 hs1 hb2 hX7 hPr7 hL7 hF7 hB7 hR7
                generalize (w7.alloc (.cells #[.int .i64 (lineOf (lst S) a' : Int), .slice Af fs.length cf] 48)).alloc (.cells #[.int .i64 0, .int .i64 0, .int .i64 0, .int .i64 0] 77) = w8 at q9 hX8 hP8 hL8 hF8 hB8 hR8 hg8 ⊢
                have c90 := cell_at q9 0
                have c91 := cell_at q9 1
                simp only [List.getElem?_toArray, List.getElem?_cons_zero, List.getElem?_cons_succ] at c90 c91
                obtain ⟨qs, hql, hqo, hqr⟩ := hL8
                rw [← hql] at hfz hqo ⊢
                have HC3 : Hid (qs.length + 1 ≤ maxLen) := by unfold maxLen; exact hid (by omega)
                have HC4 : Hid ((qs.length + 1) * 32 ≤ 140737488355328) := hid (by omega)
                have hw8 : w.heap.size ≤ w8.heap.size := hB8.size
                have HC5 : Hid (∀ o : Obj, w.heap.size ≤ (w8.alloc o).heap.size) := hid (fun o => by simp; omega)
                have HX8 := hid hX8
                have HP8 := hid hP8
                have HF8 := hid hF8
                have HB8 := hid hB8
                have HR8 := hid hR8
                have HQL := hid hql
                have HQO := hid hqo
                have HQR := hid hqr
                clear hX8 hP8 hF8 hB8 hR8 hql hqo hqr q9 hg7 hw7 hst7
                go_wp2_with (at_builtin; refine wpList_append_own _ rfl _ _ 41 rfl w.heap.size 48 i48 (.agg #[.int .i64 0, .slice none 0 0]) 2 32 Tryd.underlying41 hi48 hz48 hsi48 hby48 rfl (by decide) (.slice A6 qs.length c6) qs.length (recCells qs) rfl (World.ownsRow.alloc HQO.out _) ⟨w8.heap.size, 0, none⟩ 1 1 [.int .i64 (lineOf (lst S) a' : Int), .slice Af fs.length cf] rfl rfl (new_cells rfl _ 48) (rec_one _ _ _ _) HC3.out HC4.out (HC5.out _) ?_)
                intro v' wq hown' hgrow _
                have hbq := grownT_below HQO.out hgrow hw8
                have hRq : RdrAt wq g S a2 := ⟨grownT HQO.out hgrow HR8.out.cells (by decide), HR8.out.le, HR8.out.from', HR8.out.lines, HR8.out.small⟩
                have hXq := grownT HQO.out hgrow HX8.out (by decide)
                have hPq : ProbRow wq w.heap.size (.slice A7 bad.length c7) bad := grownT_row HQO.out hgrow HP8.out (by decide)
                have hLq : RecRow wq w.heap.size v' (out ++ [⟨lineOf (lst S) a', fs⟩]) :=
                  RecRow.snoc HQL.out hown' (fun i p r hp hx => ⟨(HQR.out i p r hp hx).1, grownT_row HQO.out hgrow (HQR.out i p r hp hx).2 (by decide)⟩) (grownT_row HQO.out hgrow HF8.out (by decide))
                have hBq := HB8.out.trans hbq
                have hgq : g < wq.heap.size := Nat.lt_of_lt_of_le hg8 hbq.size
                have HRq := hid hRq
                have HXq := hid hXq
                have HPq := hid hPq
                have HLq := hid hLq
                have HBq := hid hBq
                clear hRq hXq hPq hLq hBq hbq hown' hgrow HQO HQR HX8 HP8 HF8 HB8 HR8 HQL c90 c91 HC3 HC4 HC5
                go_wp2_with fail
                refine (next_start g a2 S wq HRq.out).mono ?_
                rintro e w10 ⟨rfl, hS10, hr10⟩
                rw [HNX'.out] at hS10
                have hX10 := hid ((hr10.block _ (by have := HG.out; omega)).trans HXq.out)
                have hP10 := hid (hr10.row HPq.out (prob_ne HPq.out HRq.out.cells (by decide)))
                have hL10 := hid (HLq.out.map (fun _ _ _ ho => hr10.row ho (row_ne ho HRq.out.cells (by decide))) (fun _ _ hf => hr10.row hf (row_ne hf HRq.out.cells (by decide))))
                have hB10 := hid (HBq.out.trans (hr10.below (by have := HG.out; omega)))
                have hg10 := hid (show g < w10.heap.size by rw [hr10.size]; exact hgq)
                have hS10' := hid hS10
                clear hS10 hr10 HXq HPq HLq HBq HRq
                go_wp2
                go_roundg g'
                case measure => have := HRP'.out; omega
                case rel => exact ⟨x, out ++ [⟨lineOf (lst S) a', fs⟩], bad, hS10', hX10, hP10, hL10, hB10, hg10, by simp; omega, by have := HRP'.out; omega, HRP'.out.2, HE5, by have := HRP'.out; omega⟩
              | bad p x =>
                obtain ⟨l7, A8, n8, c8, rfl⟩ := hm
                have HRP' : Hid (a' < x ∧ x ≤ S.size) := hid HRP.out
                have HNX' : Hid (nxt (lst S) a2 = x) := hid HN7.out
                have HE5 := hid (HBAD.out hfull p x rfl).symm
                clear HOK HBAD HFL HRP HN7
                unfold probV
                go_upto_region 14 with fail
                have hb1 := Below.alloc (Below.refl w7.heap.size w7) (Nat.le_refl _) (.cells #[.int .i64 l7, .slice A8 n8 c8] 48)
                have hs1 : (w7.alloc (.cells #[.int .i64 l7, .slice A8 n8 c8] 48)).heap.size = w7.heap.size + 1 := by simp
                have hb2 := hb1.alloc (by rw [hs1]; omega) (.cells #[.int .i64 0, .int .i64 p.line, .int .i64 p.col, .int .i64 p.code] 77)
                have q9 : ((w7.alloc (.cells #[.int .i64 l7, .slice A8 n8 c8] 48)).alloc (.cells #[.int .i64 0, .int .i64 p.line, .int .i64 p.col, .int .i64 p.code] 77)).heap[w7.heap.size + 1]? = some (.cells #[.int .i64 0, .int .i64 p.line, .int .i64 p.col, .int .i64 p.code] 77 (0, 0)) := heap_alloc2_new _ _ _
                have hX8 := (hb2.block _ (by have := HG.out; omega)).trans hX7
                have hP8 := row_under hPr7 hb2
                have hL8 := hL7.under hb2
                have hB8 := hB7.trans (hb2.mono hw7)
                have hR8 : RdrAt _ g S a2 := (hR7.alloc (.cells #[.int .i64 l7, .slice A8 n8 c8] 48)).alloc (.cells #[.int .i64 0, .int .i64 p.line, .int .i64 p.col, .int .i64 p.code] 77)
                have hg8 : g < ((w7.alloc (.cells #[.int .i64 l7, .slice A8 n8 c8] 48)).alloc (.cells #[.int .i64 0, .int .i64 p.line, .int .i64 p.col, .int .i64 p.code] 77)).heap.size := Nat.lt_of_lt_of_le hg7 hb2.size
                clear hb1 hs1 hb2 hX7 hPr7 hL7 hB7 hR7
                generalize (w7.alloc (.cells #[.int .i64 l7, .slice A8 n8 c8] 48)).alloc (.cells #[.int .i64 0, .int .i64 p.line, .int .i64 p.col, .int .i64 p.code] 77) = w8 at q9 hX8 hP8 hL8 hB8 hR8 hg8 ⊢
                have c90 := cell_at q9 0
                have c91 := cell_at q9 1
                have c92 := cell_at q9 2
                have c93 := cell_at q9 3
                simp only [List.getElem?_toArray, List.getElem?_cons_zero, List.getElem?_cons_succ] at c90 c91 c92 c93
                generalize w7.heap.size + 1 = k9 at q9 c90 c91 c92 c93 ⊢
                have HC3 : Hid (bad.length + 1 ≤ maxLen) := by unfold maxLen; exact hid (by have := HSM.out; omega)
                have HC4 : Hid ((bad.length + 1) * 32 ≤ 140737488355328) := hid (by have := HSM.out; omega)
                have hw8 : w.heap.size ≤ w8.heap.size := hB8.size
                have HC5 : Hid (∀ o : Obj, w.heap.size ≤ (w8.alloc o).heap.size) := hid (fun o => by simp; omega)
                have HX8 := hid hX8
                have HP8 := hid hP8
                have HL8 := hid hL8
                have HB8 := hid hB8
                have HR8 := hid hR8
                clear hX8 hP8 hL8 hB8 hR8 q9 hg7 hw7 hst7
                go_wp2_with (at_builtin; refine wpList_append_own _ rfl _ _ 42 rfl w.heap.size 77 i77 (.agg #[.int .i64 0, .int .i64 0, .int .i64 0, .int .i64 0]) 4 32 Tryd.underlying42 hi77 hz77 hsi77 hby77 rfl (by decide) (.slice A7 bad.length c7) bad.length (probCells bad) rfl (World.ownsRow.alloc HP8.out _) ⟨w8.heap.size, 0, none⟩ 1 1 [.int .i64 0, .int .i64 p.line, .int .i64 p.col, .int .i64 p.code] rfl rfl (new_cells rfl _ 77) (prob_oneC _ _ _) HC3.out HC4.out (HC5.out _) ?_)
                intro v' wq hown' hgrow _
                have hbq := grownT_below HP8.out hgrow hw8
                have hRq : RdrAt wq g S a2 := ⟨grownT HP8.out hgrow HR8.out.cells (by decide), HR8.out.le, HR8.out.from', HR8.out.lines, HR8.out.small⟩
                have hXq := grownT HP8.out hgrow HX8.out (by decide)
                have hLq : RecRow wq w.heap.size (.slice A6 out.length c6) out := HL8.out.map (fun _ _ _ ho => grownT_row HP8.out hgrow ho (by decide)) (fun _ _ hf => grownT_row HP8.out hgrow hf (by decide))
                have hPq : ProbRow wq w.heap.size v' (bad ++ [p]) := by
                  unfold ProbRow
                  rw [probCells_app, List.length_append]
                  exact hown'
                have hBq := HB8.out.trans hbq
                have hgq : g < wq.heap.size := Nat.lt_of_lt_of_le hg8 hbq.size
                have HRq := hid hRq
                have HXq := hid hXq
                have HPq := hid hPq
                have HLq := hid hLq
                have HBq := hid hBq
                clear hRq hXq hPq hLq hBq hbq hown' hgrow HX8 HP8 HL8 HB8 HR8 c90 c91 c92 c93 HC3 HC4 HC5
                go_wp2_with fail
                refine (next_start g a2 S wq HRq.out).mono ?_
                rintro e w10 ⟨rfl, hS10, hr10⟩
                rw [HNX'.out] at hS10
                have hX10 := hid ((hr10.block _ (by have := HG.out; omega)).trans HXq.out)
                have hP10 := hid (hr10.row HPq.out (prob_ne HPq.out HRq.out.cells (by decide)))
                have hL10 := hid (HLq.out.map (fun _ _ _ ho => hr10.row ho (row_ne ho HRq.out.cells (by decide))) (fun _ _ hf => hr10.row hf (row_ne hf HRq.out.cells (by decide))))
                have hB10 := hid (HBq.out.trans (hr10.below (by have := HG.out; omega)))
                have hg10 := hid (show g < w10.heap.size by rw [hr10.size]; exact hgq)
                have hS10' := hid hS10
                clear hS10 hr10 HXq HPq HLq HBq HRq
                go_wp2
                go_roundg g'
                case measure => have := HRP'.out; omega
                case rel => exact ⟨x, out, bad ++ [p], hS10', hX10, hP10, hL10, hB10, hg10, ho, by have := HRP'.out; simp; omega, HRP'.out.2, HE5, by have := HRP'.out; omega⟩
        · have hltz : ¬ (a' : Int) < (S.size : Int) := by omega
          have hRR : Hid (R = (out, bad)) := hid (by rw [← hE.out]; exact parseR_end _ _ _ _ _ _ (by rw [← Lib.size_eq]; omega))
          clear hE hpl hRd
          go_wp2_with fail
          go_quiet (fail)
          go_wp2
          go_ret2
          rw [hRR.out]
          exact ⟨hB.out.trans (below_drewNg _ _ _), _, _, rfl, hL.out.map (fun _ _ _ ho => row_drawn ho _) (fun _ _ hf => row_drawn hf _), row_drawn hP.out _⟩
end Go.Proofs.YtcpkefjijinhiaaDoor
