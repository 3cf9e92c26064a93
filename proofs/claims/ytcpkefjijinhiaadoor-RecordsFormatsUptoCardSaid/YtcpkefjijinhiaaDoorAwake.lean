/-
  The laws' sanity check of layer 2 holds. Conditions: the library's MaxLen holds a number.
-/
import Derived.Test.YtcpkefjijinhiaaDoorFCode
import Derived.Test.YtcpkefjijinhiaaDoorCParse
import Derived.Test.YtcpkefjijinhiaaDoorComma
set_option linter.unusedVariables false
namespace Go.Proofs.YtcpkefjijinhiaaDoor
open Go Go.Proofs Go.RowKit Go.Lib

def awakeRec : Rec := ⟨1, [⟨[97], 1, false⟩, ⟨[98, 44, 99], 3, true⟩]⟩
theorem awake_parse : parseM 44 34 [97, 44, 34, 98, 44, 99, 34, 10] = ([awakeRec], []) := by rfl
def awakeRows : List (List Str) := [[[], [120, 34, 121]]]
theorem awake_format : fmtM 44 34 awakeRows = ([44, 34, 120, 34, 34, 121, 34, 10], 0) := by rfl
theorem awake_tame : TameRows awakeRows := by
  intro l hl s hs
  simp only [awakeRows, List.mem_singleton] at hl
  subst hl
  simp only [List.mem_cons, List.not_mem_nil, or_false] at hs
  rcases hs with rfl | rfl
  · exact ⟨by simp, fun b hb => by simp at hb⟩
  · refine ⟨by simp, fun b hb => ?_⟩
    simp only [List.mem_cons, List.not_mem_nil, or_false] at hb
    rcases hb with rfl | rfl | rfl <;> decide
theorem awake_rows (w : World) : RowsIn ((w.alloc (.cells #[.string ⟨#[]⟩, .string ⟨#[120, 34, 121]⟩] 9)).alloc (.cells #[.slice (some ⟨w.heap.size, 0, none⟩) 2 2] 45)) (fun b => b < ((w.alloc (.cells #[.string ⟨#[]⟩, .string ⟨#[120, 34, 121]⟩] 9)).alloc (.cells #[.slice (some ⟨w.heap.size, 0, none⟩) 2 2] 45)).heap.size) (some ⟨w.heap.size + 1, 0, none⟩) awakeRows := by
  have h2 : ((w.alloc (.cells #[.string ⟨#[]⟩, .string ⟨#[120, 34, 121]⟩] 9)).alloc (.cells #[.slice (some ⟨w.heap.size, 0, none⟩) 2 2] 45)).heap[w.heap.size + 1]? = some (.cells #[.slice (some ⟨w.heap.size, 0, none⟩) 2 2] 45 (0, 0)) := heap_alloc2_new _ _ _
  have h1 : ((w.alloc (.cells #[.string ⟨#[]⟩, .string ⟨#[120, 34, 121]⟩] 9)).alloc (.cells #[.slice (some ⟨w.heap.size, 0, none⟩) 2 2] 45)).heap[w.heap.size]? = some (.cells #[.string ⟨#[]⟩, .string ⟨#[120, 34, 121]⟩] 9 (0, 0)) := by
    rw [Below.heap_alloc _ _ _ (by simp)]
    exact heap_alloc_new w _
  refine .inr ⟨w.heap.size + 1, 0, rfl, (Array.getElem?_eq_some_iff.1 h2).1, fun j l hj => ?_⟩
  match j, hj with
  | 0, hj =>
    injection hj with hj
    subst hj
    refine ⟨some ⟨w.heap.size, 0, none⟩, 2, cell_at h2 0, Nat.le_refl _, by omega, .inr ⟨w.heap.size, 0, rfl, (Array.getElem?_eq_some_iff.1 h1).1, fun i s hs => ?_⟩⟩
    match i, hs with
    | 0, hs => injection hs with hs; subst hs; exact cell_at h1 0
    | 1, hs => injection hs with hs; subst hs; exact cell_at h1 1
    | i + 2, hs => simp at hs
  | j + 1, hj => simp [awakeRows] at hj

set_option maxHeartbeats 4000000 in
set_option maxRecDepth 100000 in
theorem awake_any (m : Int) (w : World) (hm : w.cell? ⟨0, 0, none⟩ = some (.int .i64 m)) (hw0 : 0 < w.heap.size) :
    Calls Tryd.prog 9 #[] w fun e w' => e = .returned (.bool true) ∧ Below w.heap.size w w' := by
  have HM := hid hm
  clear hm
  go_enter Tryd.func9, Tryd.ntmps9
  go_wp2_with fail
  refine (comma_any _).mono ?_
  rintro e w1 ⟨rfl, hb1⟩
  go_wp2_with fail
  have cP := codeParse_any ⟨#[97, 44, 34, 98, 44, 99, 34, 10]⟩ 44 34 w1
  rw [show lst ⟨#[97, 44, 34, 98, 44, 99, 34, 10]⟩ = [97, 44, 34, 98, 44, 99, 34, 10] from rfl, awake_parse] at cP
  refine cP.mono ?_
  rintro e w2 ⟨hb2, v1, v2, rfl, hR, hP⟩
  clear cP
  obtain ⟨g1, cap1, A1, c1, rfl, hl1, hf1, hF⟩ := hR.cell (i := 0) (r := awakeRec) rfl
  obtain ⟨g2, cap2, hAg, ht2, hc2, hq2⟩ := hF.cell (i := 1) (f := ⟨[98, 44, 99], 3, true⟩) rfl
  obtain ⟨A2, c2, rfl⟩ := row_slice hP
  have hB2 := hb1.trans (hb2.mono hb1.size)
  injection hAg with hA1 _ hc1
  subst hA1 hc1
  have l1 : w2.cell? ⟨g1, 0, none⟩ = some (.int .i64 1) := hl1
  have f1 : w2.cell? ⟨g1, 1, none⟩ = some (.slice (some ⟨g2, 0, none⟩) 2 c1) := hf1
  have t2 : w2.cell? ⟨g2, 3, none⟩ = some (.string ⟨#[98, 44, 99]⟩) := ht2
  have c2' : w2.cell? ⟨g2, 4, none⟩ = some (.int .i64 3) := hc2
  have hg1 : g1 < w2.heap.size := (World.ownsRow.lt hR.choose_spec.2.1 g1 rfl).2
  have hg2 : g2 < w2.heap.size := (World.ownsRow.lt hF g2 rfl).2
  have hm2 : w2.cell? ⟨0, 0, none⟩ = some (.int .i64 m) := (hB2.cell (p := ⟨0, 0, none⟩) hw0).trans HM.out
  have hrows := awake_rows w2
  have hs2 : ((w2.alloc (.cells #[.string ⟨#[]⟩, .string ⟨#[120, 34, 121]⟩] 9)).alloc (.cells #[.slice (some ⟨w2.heap.size, 0, none⟩) 2 2] 45)).heap.size = w2.heap.size + 1 + 1 := by simp
  have hba : Below w2.heap.size w2 ((w2.alloc (.cells #[.string ⟨#[]⟩, .string ⟨#[120, 34, 121]⟩] 9)).alloc (.cells #[.slice (some ⟨w2.heap.size, 0, none⟩) 2 2] 45)) :=
    (Below.alloc (Below.refl _ _) (Nat.le_refl _) _).alloc (by simp) _
  have HB2 := hid hB2
  have HM2 := hid hm2
  have HROWS := hid hrows
  have HS2 := hid hs2
  have HBA := hid hba
  have L1 := hid l1
  have F1 := hid f1
  have T2 := hid t2
  have C2 := hid c2'
  clear hB2 hm2 hrows hs2 hba l1 f1 t2 c2' hl1 hf1 ht2 hc2 hq2 hR hF hP hb1 hb2 HM
  go_wp2_with fail
  refine (comma_any _).mono ?_
  rintro e w3 ⟨rfl, hb3⟩
  have hB3 : Below w2.heap.size w2 w3 := HBA.out.trans (hb3.mono HBA.out.size)
  have hrows3 := (HROWS.out.kept (fun b hb => hb3.block b hb)).mono (P' := fun b => b < w3.heap.size) (fun b hb => Nat.lt_of_lt_of_le hb hb3.size)
  have hm3 : w3.cell? ⟨0, 0, none⟩ = some (.int .i64 m) := (hB3.cell (p := ⟨0, 0, none⟩) (Nat.lt_of_lt_of_le hw0 HB2.out.size)).trans HM2.out
  have cF := codeFormat_any _ awakeRows 1 44 34 m w3 hrows3 (by decide) awake_tame hm3 (Nat.lt_of_lt_of_le hw0 (Nat.le_trans HB2.out.size hB3.size))
  rw [awake_format] at cF
  go_wp2_with fail
  refine cF.mono ?_
  rintro e w4 ⟨rfl, hb4⟩
  have hB4 : Below w2.heap.size w2 w4 := hB3.trans (hb4.mono hB3.size)
  have l1 : w4.cell? ⟨g1, 0, none⟩ = some (.int .i64 1) := (hB4.cell (p := ⟨g1, 0, none⟩) hg1).trans L1.out
  have f1 : w4.cell? ⟨g1, 1, none⟩ = some (.slice (some ⟨g2, 0, none⟩) 2 c1) := (hB4.cell (p := ⟨g1, 1, none⟩) hg1).trans F1.out
  have t2 : w4.cell? ⟨g2, 3, none⟩ = some (.string ⟨#[98, 44, 99]⟩) := (hB4.cell (p := ⟨g2, 3, none⟩) hg2).trans T2.out
  have c2' : w4.cell? ⟨g2, 4, none⟩ = some (.int .i64 3) := (hB4.cell (p := ⟨g2, 4, none⟩) hg2).trans C2.out
  have HB4 := hid (HB2.out.trans (hB4.mono HB2.out.size))
  clear hB3 hrows3 hm3 cF hb3 hb4 hB4 HROWS HS2 HBA
  go_wp2
  go_ret
  exact ⟨rfl, HB4.out⟩
end Go.Proofs.YtcpkefjijinhiaaDoor
