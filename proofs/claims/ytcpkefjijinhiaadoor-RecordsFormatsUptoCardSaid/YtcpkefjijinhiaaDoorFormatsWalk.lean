/-
  The walk of the statement RecordsFormats: it returns true. Conditions: the fields and the numbers lie in memory, the fields are not too long; the first variable of the package holds a number.
-/
import Derived.Test.YtcpkefjijinhiaaDoorHCode
import Derived.Test.YtcpkefjijinhiaaDoorDialect
import Derived.Test.YtcpkefjijinhiaaDoorFields
import Derived.Test.YtcpkefjijinhiaaDoorAwake
import Derived.Test.YtcpkefjijinhiaaDoorRefFormat
set_option linter.unusedVariables false
namespace Go.Proofs.YtcpkefjijinhiaaDoor.W2
open Go Go.Proofs Go.RowKit Go.Lib Go.Proofs.YtcpkefjijinhiaaDoor

theorem wgtRow_made : ∀ (l : List Str), (∀ s ∈ l, s.length ≤ 6) → wgtRow l ≤ 1 + 15 * l.length
  | [], _ => by simp [wgtRow]
  | s :: r, h => by
    have ih := wgtRow_made r (fun x hx => h x (List.mem_cons_of_mem _ hx))
    have := h s (by simp)
    simp only [wgtRow, wgtF, List.length_cons]
    omega
theorem wgtRows_made : ∀ (ls : List (List Str)), (∀ l ∈ ls, MadeRow l) → wgtRows ls ≤ 76 * ls.length
  | [], _ => by simp [wgtRows]
  | l :: r, h => by
    have ih := wgtRows_made r (fun x hx => h x (List.mem_cons_of_mem _ hx))
    have hl := h l (by simp)
    have h1 := wgtRow_made l hl.2.2
    have h2 := hl.2.1
    simp only [wgtRows, List.length_cons]
    omega


set_option maxHeartbeats 8000000 in
set_option maxRecDepth 100000 in
theorem formats_any (m : Int) (A : Option Addr) (ls : List (List Str)) (c : Nat) (D Q : UInt8) (AI : Option Addr) (L : List Int) (ci : Nat) (w : World) (hR : RowsIn w (fun b => b < w.heap.size) A ls) (hl : ls.length ≤ 1048576) (hT : TameRows ls) (hwg : wgtRows ls ≤ 70368744177664)
    (hI : IntsIn w w.heap.size AI L) (hm : w.cell? ⟨0, 0, none⟩ = some (.int .i64 m)) (hw0 : 0 < w.heap.size) :
    Calls Tryd.prog 5 #[.slice A ls.length c, dialV D Q, .slice AI L.length ci] w fun e w' => e = .returned (.bool true) ∧ Below w.heap.size w w' := by
  have cL := light_any AI L.length ci
  have hza : (w.alloc (.cells #[.int .u8 D.toNat, .int .u8 Q.toNat] 23)).heap[w.heap.size]? = some (.cells #[.int .u8 D.toNat, .int .u8 Q.toNat] 23 (0, 0)) := heap_alloc_new w _
  have hba : Below w.heap.size w (w.alloc (.cells #[.int .u8 D.toNat, .int .u8 Q.toNat] 23)) := (Below.refl _ w).alloc (Nat.le_refl _) _
  have hsa : (w.alloc (.cells #[.int .u8 D.toNat, .int .u8 Q.toNat] 23)).heap.size = w.heap.size + 1 := by simp
  unfold dialV
  obtain ⟨w0, hw0e⟩ : ∃ W, w.alloc (.cells #[.int .u8 D.toNat, .int .u8 Q.toNat] 23) = W := ⟨_, rfl⟩
  rw [hw0e] at hza hba hsa
  have HX : Hid (∀ W, Below w0.heap.size w0 W → W.heap[w.heap.size]? = some (.cells #[.int .u8 D.toNat, .int .u8 Q.toNat] 23 (0, 0))) := hid fun W hb => (hb.block _ (by omega)).trans hza
  have HM : Hid (∀ W, Below w0.heap.size w0 W → W.cell? ⟨0, 0, none⟩ = some (.int .i64 m)) := hid fun W hb => (hb.cell (p := ⟨0, 0, none⟩) (by show 0 < _; omega)).trans ((hba.cell (p := ⟨0, 0, none⟩) hw0).trans hm)
  have HR : Hid (∀ W, Below w0.heap.size w0 W → RowsIn W (fun b => b < W.heap.size) A ls) := hid fun W hb => ((hR.kept (fun b hb' => hba.block b hb')).kept (fun b hb' => hb.block b (by omega))).mono (fun b hb' => by have := hb.size; omega)
  have HW : Hid (∀ W, Below w0.heap.size w0 W → Below w.heap.size w W) := hid fun W hb => hba.trans (hb.mono (by omega))
  have cA : Hid (∀ W, Below w0.heap.size w0 W → Calls Tryd.prog 9 #[] W fun e w' => e = .returned (.bool true) ∧ Below W.heap.size W w') := hid fun W hb => awake_any m W (HM.out W hb) (by have := hb.size; omega)
  have cF : Hid (∀ W, Below w0.heap.size w0 W → Calls Tryd.prog 21 #[.slice A ls.length c, .agg #[.int .u8 D.toNat, .int .u8 Q.toNat]] W (FormatOut W (fmtM D Q ls).1 (fmtM D Q ls).2)) := hid fun W hb => codeFormat_any A ls c D Q m W (HR.out W hb) (by omega) hT (HM.out W hb) (by have := hb.size; omega)
  have cO : Hid (∀ W, Below w0.heap.size w0 W → Calls Tryd.prog 18 #[.slice A ls.length c, .agg #[.int .u8 D.toNat, .int .u8 Q.toNat]] W (FormatOut W (fmtM D Q ls).1 (fmtM D Q ls).2)) := hid fun W hb => refFormat_any A ls c D Q W (HR.out W hb) hwg (by omega)
  have hI0 : IntsIn w0 w0.heap.size AI L := (hI.below hba).mono (by omega)
  have HI := hid hI0
  have HZ := hid hsa
  have HE := hid hw0e
  obtain ⟨N, hN⟩ : ∃ n, ls.length = n := ⟨_, rfl⟩
  rw [hN] at cF cO ⊢
  obtain ⟨⟨F1, F2⟩, hF⟩ : ∃ r, fmtM D Q ls = r := ⟨_, rfl⟩
  simp only [hF] at cF cO
  unfold FormatOut at cF cO
  clear hza hba hsa hw0e hR hT hwg hI hm hI0 hN hF HR hl
  by_cases h4 : L.length ≤ 400
  · rw [decide_eq_true h4] at cL
    have cR := hid (roll_any AI L ci h4 w0 HI.out)
    go_enter Tryd.func5, Tryd.ntmps5
    go_wp2_with fail
    (try rw [HE.out])
    refine (cL _).mono ?_
    rintro e w' ⟨rfl, rfl⟩
    go_wp2_with fail
    refine cR.out.mono ?_
    rintro e w1 ⟨rfl, hd1, hb1⟩
    have hg1 := hd1.lt
    have cFi := fields_any w0.heap.size ci 0 AI L w1 hd1
    unfold FieldsOut at cFi
    have CFI := hid cFi
    have HB1 := hid hb1
    clear hd1 hb1 cL cR cFi HI
    go_wp2_with fail
    refine CFI.out.mono ?_
    rintro e w2 ⟨⟨v, vs, ms, rfl, hov, hsr, hm5, hgood⟩, ⟨k2, hd2⟩, hP2⟩
    obtain ⟨Av, cv, rfl, -, -, hrows⟩ := rows_rowsIn hov hsr
    have cX := dialAll w0.heap.size ci k2 AI L w2 hd2
    unfold DialP at cX
    have CX := hid cX
    have HR2 := hid hrows
    have HP2 := hid hP2
    have HG := hid (And.intro hm5 hgood)
    clear hov hsr hd2 hP2 hrows hm5 hgood cX CFI
    go_wp2_with fail
    refine CX.out.mono ?_
    rintro e w3 ⟨⟨D2, Q2, rfl, hv⟩, ⟨k3, hd3⟩, hP3⟩
    have hs2 := HP2.out.size
    have hs3 := hP3.size
    have hb3 : Below w0.heap.size w0 w3 := HB1.out.trans ((HP2.out.toBelow (B' := w0.heap.size) HB1.out.size (Nat.le_refl _)).trans (hP3.toBelow (B' := w0.heap.size) (by have := HB1.out.size; omega) (Nat.le_refl _)))
    have hrows3 : RowsIn w3 (fun b => b < w3.heap.size) Av ms := (HR2.out.kept (w' := w3) fun b hb => hP3.block b hb.2 (by omega)).mono fun b hb => by have := hb.2; omega
    have hza : (w3.alloc (.cells #[.int .u8 D2.toNat, .int .u8 Q2.toNat] 23)).heap[w3.heap.size]? = some (.cells #[.int .u8 D2.toNat, .int .u8 Q2.toNat] 23 (0, 0)) := heap_alloc_new w3 _
    have hba : Below w3.heap.size w3 (w3.alloc (.cells #[.int .u8 D2.toNat, .int .u8 Q2.toNat] 23)) := (Below.refl _ w3).alloc (Nat.le_refl _) _
    have hsa : (w3.alloc (.cells #[.int .u8 D2.toNat, .int .u8 Q2.toNat] 23)).heap.size = w3.heap.size + 1 := by simp
    obtain ⟨w4, hw4⟩ : ∃ W, w3.alloc (.cells #[.int .u8 D2.toNat, .int .u8 Q2.toNat] 23) = W := ⟨_, rfl⟩
    rw [hw4] at hza hba hsa
    have hb4 : Below w0.heap.size w0 w4 := hb3.trans (hba.mono hb3.size)
    have HX2 : Hid (∀ W, Below w4.heap.size w4 W → W.heap[w3.heap.size]? = some (.cells #[.int .u8 D2.toNat, .int .u8 Q2.toNat] 23 (0, 0))) := hid fun W hb => (hb.block _ (by omega)).trans hza
    have HR4 : ∀ W, Below w4.heap.size w4 W → RowsIn W (fun b => b < W.heap.size) Av ms := fun W hb => ((hrows3.kept (fun b hb' => hba.block b hb')).kept (fun b hb' => hb.block b (by omega))).mono (fun b hb' => by have := hb.size; omega)
    have H04 : Hid (∀ W, Below w4.heap.size w4 W → Below w0.heap.size w0 W) := hid fun W hb => hb4.trans (hb.mono hb4.size)
    have htame : TameRows ms := fun l hl s hs => by have := (HG.out.2 l hl).2.2 s hs; omega
    have hwg2 : wgtRows ms ≤ 70368744177664 := by have := wgtRows_made ms HG.out.2; have := HG.out.1; omega
    have cG : Hid (∀ W, Below w4.heap.size w4 W → Calls Tryd.prog 21 #[.slice Av ms.length cv, .agg #[.int .u8 D2.toNat, .int .u8 Q2.toNat]] W (FormatOut W (fmtM D2 Q2 ms).1 (fmtM D2 Q2 ms).2)) := hid fun W hb => codeFormat_any Av ms cv D2 Q2 m W (HR4 W hb) (by have := HG.out.1; omega) htame (HM.out W (H04.out W hb)) (by have := (H04.out W hb).size; have := HZ.out; omega)
    have cP : Hid (∀ W, Below w4.heap.size w4 W → Calls Tryd.prog 18 #[.slice Av ms.length cv, .agg #[.int .u8 D2.toNat, .int .u8 Q2.toNat]] W (FormatOut W (fmtM D2 Q2 ms).1 (fmtM D2 Q2 ms).2)) := hid fun W hb => refFormat_any Av ms cv D2 Q2 W (HR4 W hb) hwg2 (by have := HG.out.1; omega)
    obtain ⟨⟨G1, G2⟩, hG⟩ : ∃ r, fmtM D2 Q2 ms = r := ⟨_, rfl⟩
    simp only [hG] at cG cP
    unfold FormatOut at cG cP
    obtain ⟨N2, hN2⟩ : ∃ n, ms.length = n := ⟨_, rfl⟩
    rw [hN2] at cG cP
    have HN2 := hid hN2
    have HW4 := hid hw4
    have d0 := cell_at (HX.out w4 hb4) 0
    have d1 := cell_at (HX.out w4 hb4) 1
    simp only [List.getElem?_toArray, List.getElem?_cons_zero, List.getElem?_cons_succ] at d0 d1
    have HB4 := hid (Below.refl w4.heap.size w4)
    clear hv hd3 hP3 hs2 hs3 hb3 hrows3 hza hba hsa hb4 HR4 htame hwg2 hG hN2 hw4 HG HP2 HR2 CX HB1
    unfold dialV
    go_upto_region 5 with fail
    (try rw [HW4.out])
    (try rw [HN2.out])
    go_wp2_with fail
    refine (cF.out _ (H04.out _ HB4.out)).mono ?_
    rintro e w5 ⟨rfl, hb5⟩
    have HB5 := hid (HB4.out.trans hb5)
    clear hb5 d0 d1
    have d0 := cell_at (HX.out w5 (H04.out _ HB5.out)) 0
    have d1 := cell_at (HX.out w5 (H04.out _ HB5.out)) 1
    simp only [List.getElem?_toArray, List.getElem?_cons_zero, List.getElem?_cons_succ] at d0 d1
    go_wp2_with fail
    refine (cO.out _ (H04.out _ HB5.out)).mono ?_
    rintro e w6 ⟨rfl, hb6⟩
    have HB6 := hid (HB5.out.trans (hb6.mono HB5.out.size))
    clear hb6 d0 d1
    have d0 := cell_at (HX2.out w6 HB6.out) 0
    have d1 := cell_at (HX2.out w6 HB6.out) 1
    simp only [List.getElem?_toArray, List.getElem?_cons_zero, List.getElem?_cons_succ] at d0 d1
    go_wp2_with fail
    refine (cG.out _ HB6.out).mono ?_
    rintro e w7 ⟨rfl, hb7⟩
    have HB7 := hid (HB6.out.trans (hb7.mono HB6.out.size))
    clear hb7 d0 d1
    have d0 := cell_at (HX2.out w7 HB7.out) 0
    have d1 := cell_at (HX2.out w7 HB7.out) 1
    simp only [List.getElem?_toArray, List.getElem?_cons_zero, List.getElem?_cons_succ] at d0 d1
    go_wp2_with fail
    refine (cP.out _ HB7.out).mono ?_
    rintro e w8 ⟨rfl, hb8⟩
    have HB8 := hid (HB7.out.trans (hb8.mono HB7.out.size))
    clear hb8 d0 d1
    go_wp2_with fail
    refine (cA.out _ (H04.out _ HB8.out)).mono ?_
    rintro e w9 ⟨rfl, hb9⟩
    have HB9 := hid (HW.out _ (H04.out _ (HB8.out.trans (hb9.mono HB8.out.size))))
    clear hb9
    go_wp2
    go_ret
    exact ⟨rfl, HB9.out⟩
  · rw [decide_eq_false h4] at cL
    go_enter Tryd.func5, Tryd.ntmps5
    go_wp2_with fail
    (try rw [HE.out])
    refine (cL _).mono ?_
    rintro e w' ⟨rfl, rfl⟩
    go_wp2_with fail
    refine (cA.out _ (Below.refl _ _)).mono ?_
    rintro e w2 ⟨rfl, hb⟩
    have HB := hid (HW.out _ hb)
    clear hb
    go_wp2
    go_ret
    exact ⟨rfl, HB.out⟩
end Go.Proofs.YtcpkefjijinhiaaDoor.W2
