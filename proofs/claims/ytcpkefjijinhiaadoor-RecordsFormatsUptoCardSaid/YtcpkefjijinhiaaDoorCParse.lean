/-
  The code's Parse of layer 2 returns what parseM says. Conditions: none.
-/
import Derived.Test.YtcpkefjijinhiaaDoorCNew
set_option linter.unusedVariables false
namespace Go.Proofs.YtcpkefjijinhiaaDoor
open Go Go.Proofs Go.RowKit Go.Lib

theorem field_begin (L : Str) (D Q : UInt8) (a : Nat) (p : Prob) (x : Nat) (h : fieldP L D Q a = .bad p x) : x = L.length ∨ ∃ y, x = nxt L y := by
  unfold fieldP at h
  split at h
  · unfold quotP at h
    split at h
    · injection h with _ h; exact .inl h.symm
    · split at h
      · simp at h
      · injection h with _ h; exact .inr ⟨_, h.symm⟩
  · unfold plainP at h
    split at h
    · injection h with _ h; exact .inr ⟨_, h.symm⟩
    · simp at h
theorem rec_begin (L : Str) (D Q : UInt8) : ∀ (n : Nat) (fs : List Fld) (a : Nat), (recP L D Q n fs a).place = L.length ∨ ∃ y, (recP L D Q n fs a).place = nxt L y
  | 0, fs, a => .inr ⟨a, rfl⟩
  | n + 1, fs, a => by
    unfold recP
    cases hf : fieldP L D Q a with
    | bad p x => exact field_begin L D Q a p x hf
    | ok f x =>
      simp only
      split
      · exact .inr ⟨x, rfl⟩
      · exact rec_begin L D Q n _ _
theorem rec_begOf (L : Str) (D Q : UInt8) (n : Nat) (fs : List Fld) (a : Nat) (h : (recP L D Q n fs a).place < L.length) : begOf L (recP L D Q n fs a).place = (recP L D Q n fs a).place := by
  rcases rec_begin L D Q n fs a with e | ⟨y, e⟩
  · omega
  · rw [e] at h ⊢
    exact begOf_nxt L y h
theorem RecRow.map {w w' : World} {B : Nat} {v : Value} {rs : List Rec} (h : RecRow w B v rs) (h1 : ∀ v n xs, w.ownsRow B 48 2 v n xs → w'.ownsRow B 48 2 v n xs) (h2 : ∀ v fs, FldRow w B v fs → FldRow w' B v fs) : RecRow w' B v rs := by
  obtain ⟨ps, hl, ho, hr⟩ := h
  exact ⟨ps, hl, h1 _ _ _ ho, fun i p r hp hx => ⟨(hr i p r hp hx).1, h2 _ _ (hr i p r hp hx).2⟩⟩
theorem RecRow.under {w w' : World} {B : Nat} {v : Value} {rs : List Rec} (h : RecRow w B v rs) (hb : Below w.heap.size w w') : RecRow w' B v rs :=
  h.map (fun _ _ _ ho => row_under ho hb) (fun _ _ hf => row_under hf hb)
theorem rec_one (l : Int) (A : Option Addr) (n c : Nat) : ∀ u ∈ [Value.int .i64 l, .slice A n c], u.oneCell' = true := by
  intro u hu
  simp at hu
  rcases hu with rfl | rfl <;> rfl
theorem RecRow.ckept {w w' : World} {B g : Nat} {v : Value} {rs : List Rec} (h : RecRow w B v rs) (hK : CKept B g w w') {cs : Array Value} (hg : w.heap[g]? = some (.cells cs 86 (0, 0))) : RecRow w' B v rs :=
  h.map (fun _ _ _ ho => row_ckept ho hK (by decide) (row_ne ho hg (by decide))) (fun _ _ hf => row_ckept hf hK (by decide) (row_ne hf hg (by decide)))
theorem RecRow.snoc {w : World} {B : Nat} {v : Value} {qs : List (Int × Value)} {rs : List Rec} {l : Int} {fv : Value} {fs : List Fld} (hl : qs.length = rs.length) (ho : w.ownsRow B 48 2 v (qs.length + 1) (recCells qs ++ [.int .i64 l, fv]))
    (hr : ∀ (i : Nat) (p : Int × Value) (r : Rec), qs[i]? = some p → rs[i]? = some r → p.1 = r.line ∧ FldRow w B p.2 r.fields) (hf : FldRow w B fv fs) : RecRow w B v (rs ++ [⟨l, fs⟩]) := by
  refine ⟨qs ++ [(l, fv)], by simp [hl], ?_, fun i p r hp hx => ?_⟩
  · rw [recCells_app, List.length_append]
    exact ho
  · rcases Nat.lt_trichotomy i qs.length with hi | hi | hi
    · rw [List.getElem?_append_left hi] at hp
      rw [List.getElem?_append_left (by omega)] at hx
      exact hr i p r hp hx
    · subst hi
      rw [List.getElem?_append_right (Nat.le_refl _)] at hp
      rw [List.getElem?_append_right (by omega), hl] at hx
      simp at hp hx
      subst hp hx
      exact ⟨rfl, hf⟩
    · rw [List.getElem?_append_right (by omega)] at hp
      have := (List.getElem?_eq_some_iff.1 hp).1
      simp at this
      omega
theorem grown48 {w2 wq : World} {o o' : Obj} {lv : Value} {B n : Nat} {xs : List Value} (hF : w2.ownsRow B 48 2 lv n xs) (hg : ((w2.alloc o).alloc o').grownBy wq lv.ownBlock) {j : Nat} {c : Array Value} {T : TypeId} {fz : Nat × Nat} (hj : w2.heap[j]? = some (.cells c T fz)) (hT : T ≠ 48) :
    wq.heap[j]? = some (.cells c T fz) := by
  have hlt := (Array.getElem?_eq_some_iff.1 hj).1
  have h1 : (w2.alloc o).heap.size = w2.heap.size + 1 := by simp
  have h2 : ((w2.alloc o).alloc o').heap.size = w2.heap.size + 1 + 1 := by rw [show ((w2.alloc o).alloc o').heap.size = (w2.alloc o).heap.size + 1 by simp, h1]
  exact (hg.block j (by rw [h2]; omega) (fun e => row_ne hF hj hT e.symm)).trans ((Below.heap_alloc _ _ _ (by rw [h1]; omega)).trans ((Below.heap_alloc _ _ _ hlt).trans hj))
theorem grown48_below {w2 wq : World} {o o' : Obj} {lv : Value} {B n : Nat} {xs : List Value} (hF : w2.ownsRow B 48 2 lv n xs) (hg : ((w2.alloc o).alloc o').grownBy wq lv.ownBlock) (hB : B ≤ w2.heap.size) : Below B w2 wq := by
  have h1 : (w2.alloc o).heap.size = w2.heap.size + 1 := by simp
  have h2 : ((w2.alloc o).alloc o').heap.size = w2.heap.size + 1 + 1 := by rw [show ((w2.alloc o).alloc o').heap.size = (w2.alloc o).heap.size + 1 by simp, h1]
  exact (((Below.refl B w2).alloc hB _).alloc (by rw [h1]; omega) _).grown hg (by rw [h2]; omega) (fun k hk => (World.ownsRow.lt hF k hk).1)
theorem grown48_row {w2 wq : World} {o o' : Obj} {lv : Value} {B n : Nat} {xs : List Value} (hF : w2.ownsRow B 48 2 lv n xs) (hg : ((w2.alloc o).alloc o').grownBy wq lv.ownBlock) {B' e z m : Nat} {v : Value} {ys : List Value} (h : w2.ownsRow B' e z v m ys) (he : e ≠ 48) : wq.ownsRow B' e z v m ys := by
  refine ⟨h.1, ?_⟩
  rcases h.2 with h2 | ⟨k, cap, cur, hk, hb, hh, r⟩
  · exact .inl h2
  · exact .inr ⟨k, cap, cur, hk, hb, grown48 hF hg hh he, r⟩
theorem CKept.toBelow {B g : Nat} {w w' : World} (h : CKept B g w w') (hg : B ≤ g) : Below B w w' := ⟨h.os, h.tape, h.output, h.size, fun k hk => h.low k hk (by omega)⟩
theorem one_prob {w : World} {B : Nat} (hB : B ≤ w.heap.size) (p : Prob) : ProbRow (w.alloc (.cells #[.int .i64 0, .int .i64 p.line, .int .i64 p.col, .int .i64 p.code] 77)) B (.slice (some ⟨w.heap.size, 0, none⟩) 1 1) [p] := by
  refine ⟨rfl, .inr ⟨w.heap.size, 1, _, rfl, hB, heap_alloc_new w _, Nat.le_refl _, (by decide : (1 : Nat) ≤ maxLen), rfl, rfl⟩⟩
/-- What Parse hands back. -/
def ParseOut (B : Nat) (w : World) (r : List Rec × List Prob) (e : Ending) (w' : World) : Prop :=
  Below B w w' ∧ ∃ v1 v2, e = .returned (.tuple #[v1, v2]) ∧ RecRow w' B v1 r.1 ∧ ProbRow w' B v2 r.2
theorem RecRow.nil (w : World) (B : Nat) : RecRow w B (.slice none 0 0) [] := ⟨[], rfl, World.ownsRow_nil _ _ _ _, fun i p r hp _ => by simp at hp⟩

set_option maxHeartbeats 4000000 in
set_option maxRecDepth 100000 in
theorem codeParse_any (S : ByteArray) (D Q : UInt8) (w : World) : Calls Tryd.prog 22 #[.string S, dialV D Q] w (ParseOut w.heap.size w (parseM D Q (lst S))) := by
  have cV := fun w => codeValid_any D Q w
  have hsz : (lst S).length = S.size := by rw [← Lib.size_eq]
  obtain ⟨R, hR⟩ : ∃ R, parseM D Q (lst S) = R := ⟨_, rfl⟩
  rw [hR]
  unfold parseM at hR
  rw [hsz] at hR
  cases hv : validB D Q with
  | false =>
    rw [hv] at hR cV
    simp only [Bool.false_eq_true, if_false] at hR
    subst hR
    unfold dialV at cV ⊢
    clear hv hsz
    go_enter Tryd.func22, Tryd.ntmps22
    go_wp2_with fail
    refine (cV _).mono ?_
    rintro e w1 ⟨rfl, hb1⟩
    go_wp2
    go_ret2
    refine ⟨((Below.alloc (Below.refl w.heap.size w) (Nat.le_refl _) _).trans (hb1.mono (by simp))).alloc (Nat.le_trans (by simp) hb1.size) _, _, _, rfl, RecRow.nil _ _, ?_⟩
    exact one_prob (Nat.le_trans (by simp) hb1.size) ⟨0, 0, 1⟩
  | true =>
    rw [hv] at hR cV
    simp only [if_true] at hR
    by_cases hbig : 65536 < S.size
    · rw [if_pos hbig] at hR
      subst hR
      have hbz : (65536 : Int) < (S.size : Int) := by omega
      unfold dialV at cV ⊢
      clear hv hsz
      go_enter Tryd.func22, Tryd.ntmps22
      go_wp2_with fail
      refine (cV _).mono ?_
      rintro e w1 ⟨rfl, hb1⟩
      go_wp2
      go_ret2
      refine ⟨((Below.alloc (Below.refl w.heap.size w) (Nat.le_refl _) _).trans (hb1.mono (by simp))).alloc (Nat.le_trans (by simp) hb1.size) _, _, _, rfl, RecRow.nil _ _, ?_⟩
      exact one_prob (Nat.le_trans (by simp) hb1.size) ⟨0, 0, 2⟩
    · rw [if_neg hbig] at hR
      have hbz : ¬ (65536 : Int) < (S.size : Int) := by omega
      have cN := fun w => newReader_any S D Q w (by omega) hv
      unfold dialV at cV cN ⊢
      clear hv hsz
      go_enter Tryd.func22, Tryd.ntmps22
      go_wp2_with fail
      refine (cV _).mono ?_
      rintro e w1 ⟨rfl, hb1⟩
      have HB1 := hid ((Below.alloc (Below.refl w.heap.size w) (Nat.le_refl _) (.cells #[.int .u8 D.toNat, .int .u8 Q.toNat] 23)).trans (hb1.mono (by simp)))
      have hbx : w1.heap[w.heap.size]? = some (.cells #[.int .u8 D.toNat, .int .u8 Q.toNat] 23 (0, 0)) := (hb1.block _ (by simp)).trans (heap_alloc_new w _)
      have d0 := cell_at hbx 0
      have d1 := cell_at hbx 1
      simp only [List.getElem?_toArray, List.getElem?_cons_zero, List.getElem?_cons_succ] at d0 d1
      clear hb1 hbx
      go_wp2_with fail
      refine (cN _).mono ?_
      rintro e w2 ⟨g, rfl, hg1, hC, hb2⟩
      have hgB : w.heap.size ≤ g := Nat.le_trans (Nat.le_trans (by simp) HB1.out.size) hg1
      have HB2 := hid (HB1.out.trans (hb2.mono HB1.out.size))
      have HC := hid hC
      obtain ⟨i48, hi48, hz48, hsi48, hby48⟩ := info_parts infoRec
      have HR := hid hR
      clear hb2 hC HB1 hg1 cV cN d0 d1 hR hbz
      go_wp2_with fail
      go_loopg [6] (S.size + 2) (fun gk lv wx => ∃ (a' : Nat) (out : List Rec) (bad : List Prob) (pv : Value), Hid (CRd wx g S D Q a' pv) ∧ Hid (ProbRow wx w.heap.size pv bad) ∧ Hid (RecRow wx w.heap.size lv out) ∧ Hid (Below w.heap.size w wx) ∧ out.length ≤ 400 ∧ bad.length ≤ a' ∧ a' ≤ S.size ∧ Hid (parseR (lst S) D Q a' out bad = R) ∧ Hid (a' < S.size → begOf (lst S) a' = a') ∧ S.size - a' < gk)
      case atStart => exact ⟨0, [], [], _, HC, hid (World.ownsRow_nil _ _ _ _), hid (RecRow.nil _ _), HB2, by simp, by simp, by omega, HR, hid (fun _ => rfl), by omega⟩
      case round =>
        obtain ⟨a', out, bad, pv, hC, hP, hL, hB, ho, hbd, hale, hE, hbg, hgk⟩ := hrel
        obtain ⟨g', rfl⟩ : ∃ g', gk = g' + 1 := ⟨gk - 1, by omega⟩
        clear HC HB2 HR
        go_wp2_with fail
        refine (find_any g a' S D Q pv wr hC.out hbg.out).mono ?_
        rintro e w3 ⟨hR3, f, a2, rfl, hC3, hE3, hf1, hf0, hbg3, ha2⟩
        have hE4 := (hE3 out bad).symm.trans hE.out
        have hP3 := hR3.row hP.out (prob_ne hP.out hC.out.cells (by decide))
        have hK3 := CKept.rolled (B := w.heap.size) hR3
        have hL3 := hL.out.ckept hK3 hC.out.cells
        have hB3 := hB.out.trans (hK3.toBelow hgB)
        clear hR3 hE3 hE hC hP hL hB hbg hK3
        have hbd2 : bad.length ≤ 65536 := by omega
        cases f with
        | false =>
          have hs := hf0 rfl
          have hRR : Hid (R = (out, bad)) := hid (by rw [← hE4]; exact parseR_end _ _ _ _ _ _ (by rw [← Lib.size_eq]; exact hs))
          have c6 := hC3.c6
          have HP3 := hid hP3
          have HL3 := hid hL3
          have HB3 := hid hB3
          clear hC3 hE4 hf1 hf0 hbg3 hP3 hL3 hB3
          go_wp2
          go_quiet (fail)
          go_wp2
          go_ret2
          rw [hRR.out]
          exact ⟨HB3.out.trans (below_drewNg _ _ _), _, _, rfl, HL3.out.map (fun _ _ _ ho => row_drawn ho _) (fun _ _ hf => row_drawn hf _), row_drawn HP3.out _⟩
        | true =>
          obtain ⟨hlt, hnot⟩ := hf1 rfl
          have hltL : a2 < (lst S).length := by rw [← Lib.size_eq]; exact hlt
          obtain ⟨A6, c6, hlv⟩ := hL3.slice
          subst hlv
          by_cases hfull : out.length = 400
          · have hfz : ((out.length : Int) == 400) = true := by simp [hfull]
            have hRR : Hid (R = (out, bad ++ [⟨lineOf (lst S) a2, 1, 2⟩])) := hid (by rw [← hE4]; exact parseR_full _ _ _ _ _ _ hltL hnot hfull)
            have hcol : colP (lst S) a2 = 1 := by unfold colP; rw [hbg3 hlt]; omega
            have HCOL := hid hcol
            have HFULL := hid hfull
            clear hfull
            have HL3 := hid hL3
            have HB3 := hid hB3
            clear hE4 hf1 hf0 hbg3 hnot hcol hL3 hB3
            go_wp2_with fail
            refine (report_any g a2 w.heap.size S D Q pv bad 2 w3 hC3 hP3 (by omega) HB3.out.size).mono ?_
            rintro e w4 ⟨rfl, pv4, hC4, hP4, hK4⟩
            rw [HCOL.out] at hP4
            have hL4 := HL3.out.ckept hK4 hC3.cells
            have hB4 := HB3.out.trans (hK4.toBelow hgB)
            have cc6 := hC4.c6
            have HP4 := hid hP4
            have HL4 := hid hL4
            have HB4 := hid hB4
            clear hC4 hP4 hL4 hB4 hK4 hC3 hP3 HL3 HB3
            go_wp2
            go_quiet (fail)
            go_wp2
            go_ret2
            rw [hRR.out]
            exact ⟨HB4.out.trans (below_drewNg _ nq _), .slice A6 out.length c6, pv4, rfl, HL4.out.map (fun _ _ _ ho => row_drawn ho nq) (fun _ _ hf => row_drawn hf nq), row_drawn HP4.out nq⟩
          · have hfz : ((out.length : Int) == 400) = false := by simp; omega
            have hrp := rec_place (lst S) D Q 12 [] a2 hltL
            have hrb := rec_begOf (lst S) D Q 12 [] a2
            rw [← Lib.size_eq] at hrp hrb
            have hok := parseR_ok (lst S) D Q a2 out bad hltL hnot hfull
            have hbad := parseR_bad (lst S) D Q a2 out bad hltL hnot hfull
            rw [hE4] at hok hbad
            have HOK := hid hok
            have HBAD := hid hbad
            have HRB := hid hrb
            have HL3 := hid hL3
            have HB3 := hid hB3
            clear hE4 hf1 hf0 hbg3 hnot hL3 hB3 hok hbad hrb
            go_wp2_with fail
            refine (rec_any g a2 w.heap.size S D Q pv bad w3 hC3 hP3 (by omega) HB3.out.size).mono ?_
            rintro e w4 ⟨hK4, pv4, hC4, hm⟩
            have hL4 := HL3.out.ckept hK4 hC3.cells
            have hB4 := HB3.out.trans (hK4.toBelow hgB)
            have hs34 : w.heap.size ≤ w3.heap.size := HB3.out.size
            clear hC3 hP3 HL3 HB3 hK4
            generalize recP (lst S) D Q 12 [] a2 = rr at *
            cases rr with
            | bad p x =>
              obtain ⟨rfl, hP4⟩ := hm
              simp only [RRes.place] at hrp hC4
              have hE5 := HBAD.out p x rfl
              have HE5 := hid hE5.symm
              have HBG : Hid (x < S.size → begOf (lst S) x = x) := hid HRB.out
              have HP4 := hid hP4
              have HC4 := hid hC4
              have HL4 := hid hL4
              have HB4 := hid hB4
              clear hP4 hC4 hL4 hB4 hE5 HOK HBAD HRB
              go_wp2
              have hba := Below.alloc (Below.refl w4.heap.size w4) (Nat.le_refl _) (.cells #[.int .i64 0, .slice none 0 0] 48)
              have hBa := HB4.out.alloc HB4.out.size (.cells #[.int .i64 0, .slice none 0 0] 48)
              go_roundg g'
              case measure => omega
              case rel => exact ⟨x, out, bad ++ [p], pv4, hid (HC4.out.below hba), hid (row_under HP4.out hba), hid (HL4.out.under hba), hid hBa, ho, by simp; omega, by omega, HE5, HBG, by omega⟩
            | ok fs x =>
              obtain ⟨⟨fv, rfl, hF4⟩, hP4⟩ := hm
              simp only [RRes.place] at hrp hC4
              have hE5 := HOK.out fs x rfl
              have HE5 := hid hE5.symm
              have HBG : Hid (x < S.size → begOf (lst S) x = x) := hid HRB.out
              have HP4 := hid hP4
              have HC4 := hid hC4
              have HL4 := hid hL4
              have HB4 := hid hB4
              have HF4 := hid (row_mono hF4 hs34)
              obtain ⟨Af, cf, rfl⟩ := row_slice hF4
              clear hP4 hC4 hL4 hB4 hE5 HOK HBAD HRB hF4
              obtain ⟨qs, hql, hqo, hqr⟩ := HL4.out
              have HQO := hid hqo
              have HQR := hid hqr
              have HL3 : Hid (qs.length + 1 ≤ maxLen) := by unfold maxLen; exact hid (by omega)
              have HL5 : Hid ((qs.length + 1) * 32 ≤ 140737488355328) := hid (by omega)
              have hw4s : w.heap.size ≤ w4.heap.size := HB4.out.size
              have HL6 : Hid (∀ o o' : Obj, w.heap.size ≤ ((w4.alloc o).alloc o').heap.size) := hid (fun o o' => by simp; omega)
              have HS1 : Hid (∀ o : Obj, (w4.alloc o).heap.size = w4.heap.size + 1) := hid (fun o => by simp)
              have HQL := hid hql
              clear hqo hqr HL4 hql
              go_wp2_with (at_builtin; refine wpList_append_own _ rfl _ _ 41 rfl w.heap.size 48 i48 (.agg #[.int .i64 0, .slice none 0 0]) 2 32 Tryd.underlying41 hi48 hz48 hsi48 hby48 rfl (by decide) (.slice A6 out.length c6) qs.length (recCells qs) rfl (World.ownsRow.alloc (World.ownsRow.alloc HQO.out _) _) ⟨w4.heap.size + 1, 0, none⟩ 1 1 [.int .i64 (lineOf (lst S) a2 : Int), .slice Af fs.length cf] rfl rfl (new_cells (HS1.out _) _ 48) (rec_one _ _ _ _) HL3.out HL5.out (HL6.out _ _) ?_)
              intro v' wq hown' hgrow _
              have hbq := grown48_below HQO.out hgrow hw4s
              have hCq : CRd wq g S D Q x pv4 := ⟨grown48 HQO.out hgrow HC4.out.cells (by decide), HC4.out.le, HC4.out.small⟩
              have hPq : ProbRow wq w.heap.size pv4 bad := grown48_row HQO.out hgrow HP4.out (by decide)
              have hLq : RecRow wq w.heap.size v' (out ++ [⟨lineOf (lst S) a2, fs⟩]) :=
                RecRow.snoc HQL.out hown' (fun i p r hp hx => ⟨(HQR.out i p r hp hx).1, grown48_row HQO.out hgrow (HQR.out i p r hp hx).2 (by decide)⟩) (grown48_row HQO.out hgrow HF4.out (by decide))
              have hBq := HB4.out.trans hbq
              have HCq := hid hCq
              have HPq := hid hPq
              have HLq := hid hLq
              have HBq := hid hBq
              clear hCq hPq hLq hBq hbq hown' hgrow HQO HQR HB4 HC4 HP4 HF4
              go_wp2
              go_roundg g'
              case measure => omega
              case rel => exact ⟨x, out ++ [⟨lineOf (lst S) a2, fs⟩], bad, pv4, HCq, HPq, HLq, HBq, by simp; omega, by omega, by omega, HE5, HBG, by omega⟩
end Go.Proofs.YtcpkefjijinhiaaDoor
