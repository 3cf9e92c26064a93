/-
  The problem of a record by the specification: Whole, At, Found. Conditions: the record's fields lie in memory. A request out of a record by the specification. .. Conditions: as stated.
-/
import Derived.Test.YtlgmanbilaminaaGreatDoorMN17
import Derived.Test.YtlgmanbilaminaaGreatDoorMN19
set_option linter.unusedVariables false
namespace Go.Proofs.YtlgmanbilaminaaGreatDoor
open Go Go.Proofs Go.RowKit Go.Lib
theorem loadP {w : World} {k : Nat} {x y z u : Value} (h : w.heap[k]? = some (.cells #[x, y, z, u] 80 (0, 0))) : (loadVar 80 ⟨k, 0, none⟩).run Tryz.prog w = .ok (.agg #[x, y, z, u]) w := by
  have h0 : w.cell? ⟨k, 0, none⟩ = some x := by rw [Lib.cell_of_heap h]; rfl
  have h1 : w.cell? ⟨k, 1, none⟩ = some y := by rw [Lib.cell_of_heap h]; rfl
  have h2 : w.cell? ⟨k, 2, none⟩ = some z := by rw [Lib.cell_of_heap h]; rfl
  have h3 : w.cell? ⟨k, 3, none⟩ = some u := by rw [Lib.cell_of_heap h]; rfl
  simp [loadVar, go_sem, h0, h1, h2, h3]
structure ProbAt (w0 w : World) (R : Nat) (a b c d : Value) : Prop where
  h : w.heap[R]? = some (.cells #[a, b, c, d] 80 (0, 0))
  b : Below w0.heap.size w0 w
  z : w0.heap.size ≤ R
theorem ProbAt.set {w0 w : World} {R : Nat} {a b c d : Value} (h : ProbAt w0 w R a b c d) (a' b' c' d' : Value) :
    ProbAt w0 ((((w.setCell ⟨R, 0, none⟩ a').setCell ⟨R, 1, none⟩ b').setCell ⟨R, 2, none⟩ c').setCell ⟨R, 3, none⟩ d') R a' b' c' d' := by
  refine ⟨?_, (((h.b.setCell (p := ⟨R, 0, none⟩) h.z a').setCell (p := ⟨R, 1, none⟩) h.z b').setCell (p := ⟨R, 2, none⟩) h.z c').setCell (p := ⟨R, 3, none⟩) h.z d', h.z⟩
  have h0 := heap_setCell_same w R 0 _ _ a' h.h
  have h1 := heap_setCell_same _ R 1 _ _ b' h0
  have h2 := heap_setCell_same _ R 2 _ _ c' h1
  have h3 := heap_setCell_same _ R 3 _ _ d' h2
  rw [h3]
  rfl
theorem ProbAt.free {w0 w : World} {R : Nat} {a b c d : Value} (h : ProbAt w0 w R a b c d) (j : Nat) : w.frozen? ⟨R, j, none⟩ = false := by simp [World.frozen?, h.h]
theorem ProbAt.next {w0 w w' : World} {R : Nat} {a b c d : Value} (h : ProbAt w0 w R a b c d) (k : Below w.heap.size w w') : ProbAt w0 w' R a b c d :=
  ⟨(k.block R (Array.getElem?_eq_some_iff.1 h.h).1).trans h.h, h.b.trans (k.mono h.b.size), h.z⟩
def FoundOut (v : Value) (w : World) (e : Ending) (w' : World) : Prop := e = .returned v ∧ Below w.heap.size w w'
set_option maxHeartbeats 4000000 in
theorem whole_any (line e0 : Int) (A : Option Addr) (F c : Nat) (w : World) :
    Calls Tryz.prog 95 #[.agg #[.int .i64 line, .slice A F c], .int .i64 e0] w (FoundOut (.agg #[.int .i64 0, .int .i64 line, .int .i64 0, .int .i64 e0]) w) := by
  have hb1 := (Below.refl w.heap.size w).alloc (Nat.le_refl _) (.cells #[.int .i64 line, .slice A F c] 26)
  have e1 := heap_alloc_new w (.cells #[.int .i64 line, .slice A F c] 26)
  have hs1 : (w.alloc (.cells #[.int .i64 line, .slice A F c] 26)).heap.size = w.heap.size + 1 := by simp
  obtain ⟨w1, hw1⟩ : ∃ w1, w.alloc (.cells #[.int .i64 line, .slice A F c] 26) = w1 := ⟨_, rfl⟩
  rw [hw1] at hb1 e1 hs1
  have hb2 := (Below.refl w1.heap.size w1).alloc (Nat.le_refl _) (.cells #[.int .i64 0, .int .i64 0, .int .i64 0, .int .i64 0] 80)
  have hp : ProbAt w (w1.alloc (.cells #[.int .i64 0, .int .i64 0, .int .i64 0, .int .i64 0] 80)) w1.heap.size (.int .i64 0) (.int .i64 0) (.int .i64 0) (.int .i64 0) := ⟨heap_alloc_new w1 _, hb1.trans (hb2.mono hb1.size), hb1.size⟩
  have hx0 : (w1.alloc (.cells #[.int .i64 0, .int .i64 0, .int .i64 0, .int .i64 0] 80)).heap[w.heap.size]? = some (.cells #[.int .i64 line, .slice A F c] 26 (0, 0)) := (hb2.block _ (by omega)).trans e1
  obtain ⟨w2, hw2⟩ : ∃ w2, w1.alloc (.cells #[.int .i64 0, .int .i64 0, .int .i64 0, .int .i64 0] 80) = w2 := ⟨_, rfl⟩
  rw [hw2, hs1] at hp
  rw [hw2] at hx0
  have y0 : w2.cell? ⟨w.heap.size, 0, none⟩ = some (.int .i64 line) := by rw [Lib.cell_of_heap hx0]; rfl
  have HP := hid hp
  have f0 := hp.free 0
  have f1 := hp.free 1
  have f2 := hp.free 2
  have f3 := hp.free 3
  have z0 : w2.cell? ⟨w.heap.size + 1, 0, none⟩ = some (.int .i64 0) := by rw [Lib.cell_of_heap hp.h]; rfl
  have z1 : w2.cell? ⟨w.heap.size + 1, 1, none⟩ = some (.int .i64 0) := by rw [Lib.cell_of_heap hp.h]; rfl
  have z2 : w2.cell? ⟨w.heap.size + 1, 2, none⟩ = some (.int .i64 0) := by rw [Lib.cell_of_heap hp.h]; rfl
  have z3 : w2.cell? ⟨w.heap.size + 1, 3, none⟩ = some (.int .i64 0) := by rw [Lib.cell_of_heap hp.h]; rfl
  clear hp hx0 hb1 hb2 e1
  go_enter Tryz.func95, Tryz.ntmps95
  go_upto_region 1 with fail
  (try rw [hw1])
  (try rw [hw2])
  go_wp2
  refine bodyPost_ret (v := .agg #[.int .i64 0, .int .i64 line, .int .i64 0, .int .i64 e0]) (results_c rfl _ _ _ ⟨w.heap.size + 1, 0, none⟩ _ rfl (loadP (HP.out.set _ _ _ _).h)) rfl ⟨rfl, (HP.out.set _ _ _ _).b⟩
set_option maxHeartbeats 4000000 in
theorem at_any (line e0 : Int) (k : Nat) (A : Option Addr) (fs : List FieldD) (c : Nat) (w : World) (h : FieldsIn w (fun b => b < w.heap.size) A fs) (hk : k < fs.length) (hk5 : k < 5) :
    Calls Tryz.prog 96 #[.agg #[.int .i64 line, .slice A fs.length c], .int .i64 (k : Int), .int .i64 e0] w (FoundOut (.agg #[.int .i64 0, .int .i64 line, .int .i64 fs[k].2.1, .int .i64 e0]) w) := by
  have hb1 := (Below.refl w.heap.size w).alloc (Nat.le_refl _) (.cells #[.int .i64 line, .slice A fs.length c] 26)
  have e1 := heap_alloc_new w (.cells #[.int .i64 line, .slice A fs.length c] 26)
  have hs1 : (w.alloc (.cells #[.int .i64 line, .slice A fs.length c] 26)).heap.size = w.heap.size + 1 := by simp
  obtain ⟨w1, hw1⟩ : ∃ w1, w.alloc (.cells #[.int .i64 line, .slice A fs.length c] 26) = w1 := ⟨_, rfl⟩
  rw [hw1] at hb1 e1 hs1
  have hb2 := (Below.refl w1.heap.size w1).alloc (Nat.le_refl _) (.cells #[.int .i64 0, .int .i64 0, .int .i64 0, .int .i64 0] 80)
  have hp : ProbAt w (w1.alloc (.cells #[.int .i64 0, .int .i64 0, .int .i64 0, .int .i64 0] 80)) w1.heap.size (.int .i64 0) (.int .i64 0) (.int .i64 0) (.int .i64 0) := ⟨heap_alloc_new w1 _, hb1.trans (hb2.mono hb1.size), hb1.size⟩
  have hx0 : (w1.alloc (.cells #[.int .i64 0, .int .i64 0, .int .i64 0, .int .i64 0] 80)).heap[w.heap.size]? = some (.cells #[.int .i64 line, .slice A fs.length c] 26 (0, 0)) := (hb2.block _ (by omega)).trans e1
  obtain ⟨w2, hw2⟩ : ∃ w2, w1.alloc (.cells #[.int .i64 0, .int .i64 0, .int .i64 0, .int .i64 0] 80) = w2 := ⟨_, rfl⟩
  rw [hw2, hs1] at hp
  rw [hw2] at hx0
  obtain ⟨b, off, rfl, hb, _, hcol, _⟩ := (h.below hp.b).at_ hk
  obtain ⟨col, hc⟩ : ∃ col, fs[k].2.1 = col := ⟨_, rfl⟩
  rw [hc] at hcol
  obtain ⟨F, hF⟩ : ∃ F, fs.length = F := ⟨_, rfl⟩
  simp only [hF] at hw1 hx0 e1 hk
  rw [hF, hc]
  have y0 : w2.cell? ⟨w.heap.size, 0, none⟩ = some (.int .i64 line) := by rw [Lib.cell_of_heap hx0]; rfl
  have y1 : w2.cell? ⟨w.heap.size, 1, none⟩ = some (.slice (some ⟨b, off, none⟩) F c) := by rw [Lib.cell_of_heap hx0]; rfl
  have HP := hid hp
  have f0 := hp.free 0
  have f1 := hp.free 1
  have f2 := hp.free 2
  have f3 := hp.free 3
  have z0 : w2.cell? ⟨w.heap.size + 1, 0, none⟩ = some (.int .i64 0) := by rw [Lib.cell_of_heap hp.h]; rfl
  have z1 : w2.cell? ⟨w.heap.size + 1, 1, none⟩ = some (.int .i64 0) := by rw [Lib.cell_of_heap hp.h]; rfl
  have z2 : w2.cell? ⟨w.heap.size + 1, 2, none⟩ = some (.int .i64 0) := by rw [Lib.cell_of_heap hp.h]; rfl
  have z3 : w2.cell? ⟨w.heap.size + 1, 3, none⟩ = some (.int .i64 0) := by rw [Lib.cell_of_heap hp.h]; rfl
  have hkz : (k : Int) < (F : Int) := by omega
  have hkd : decide (F ≤ k) = false := decide_eq_false (by omega)
  clear hp hx0 hb1 hb2 e1 h hc hF
  go_enter Tryz.func96, Tryz.ntmps96
  go_upto_region 1 with fail
  (try rw [hw1])
  (try rw [hw2])
  go_region
  all_goals
    go_wp2
    refine bodyPost_ret (v := .agg #[.int .i64 0, .int .i64 line, .int .i64 col, .int .i64 e0]) (results_c rfl _ _ _ ⟨w.heap.size + 1, 0, none⟩ _ rfl (loadP (HP.out.set _ _ _ _).h)) rfl ⟨rfl, (HP.out.set _ _ _ _).b.drew⟩
theorem Found_box (line : Int) (A : Option Addr) (F c : Nat) (w : World) : ∃ w1 w2, w.alloc (.cells #[.int .i64 line, .slice A F c] 26) = w1 ∧ w1.alloc (.cells #[.int .i64 0, .int .i64 0, .int .i64 0, .int .i64 0] 80) = w2 ∧ w1.heap.size = w.heap.size + 1 ∧
    ProbAt w w2 (w.heap.size + 1) (.int .i64 0) (.int .i64 0) (.int .i64 0) (.int .i64 0) ∧ w2.heap[w.heap.size]? = some (.cells #[.int .i64 line, .slice A F c] 26 (0, 0)) := by
  have hb1 := (Below.refl w.heap.size w).alloc (Nat.le_refl _) (.cells #[.int .i64 line, .slice A F c] 26)
  have e1 := heap_alloc_new w (.cells #[.int .i64 line, .slice A F c] 26)
  have hs1 : (w.alloc (.cells #[.int .i64 line, .slice A F c] 26)).heap.size = w.heap.size + 1 := by simp
  generalize w.alloc (.cells #[.int .i64 line, .slice A F c] 26) = w1 at hb1 e1 hs1 ⊢
  have hb2 := (Below.refl w1.heap.size w1).alloc (Nat.le_refl _) (.cells #[.int .i64 0, .int .i64 0, .int .i64 0, .int .i64 0] 80)
  have hn := heap_alloc_new w1 (.cells #[.int .i64 0, .int .i64 0, .int .i64 0, .int .i64 0] 80)
  rw [hs1] at hn
  exact ⟨w1, _, rfl, rfl, hs1, ⟨hn, hb1.trans (hb2.mono hb1.size), by omega⟩, (hb2.block _ (by omega)).trans e1⟩
set_option maxHeartbeats 4000000 in
theorem foundW_any (line e0 : Int) (A : Option Addr) (F c : Nat) (w : World) :
    Calls Tryz.prog 71 #[.agg #[.int .i64 line, .slice A F c], .int .i64 (-1), .int .i64 e0] w (FoundOut (.agg #[.int .i64 0, .int .i64 line, .int .i64 0, .int .i64 e0]) w) := by
  obtain ⟨w1, w2, hw1, hw2, hs1, hp, hx0⟩ := Found_box line A F c w
  have y0 : w2.cell? ⟨w.heap.size, 0, none⟩ = some (.int .i64 line) := by rw [Lib.cell_of_heap hx0]; rfl
  have y1 : w2.cell? ⟨w.heap.size, 1, none⟩ = some (.slice A F c) := by rw [Lib.cell_of_heap hx0]; rfl
  have cW := hid (whole_any line e0 A F c w2)
  have HP := hid hp
  clear hp hx0
  go_enter Tryz.func71, Tryz.ntmps71
  go_upto_region 2 with fail
  (try rw [hw1])
  (try rw [hw2])
  go_wp2_with fail
  refine cW.out.mono ?_
  rintro e w3 ⟨rfl, hb3⟩
  have hp3 := HP.out.next hb3
  have HP3 := hid hp3
  have f0 := hp3.free 0
  have f1 := hp3.free 1
  have f2 := hp3.free 2
  have f3 := hp3.free 3
  have z0 : w3.cell? ⟨w.heap.size + 1, 0, none⟩ = some (.int .i64 0) := by rw [Lib.cell_of_heap hp3.h]; rfl
  have z1 : w3.cell? ⟨w.heap.size + 1, 1, none⟩ = some (.int .i64 0) := by rw [Lib.cell_of_heap hp3.h]; rfl
  have z2 : w3.cell? ⟨w.heap.size + 1, 2, none⟩ = some (.int .i64 0) := by rw [Lib.cell_of_heap hp3.h]; rfl
  have z3 : w3.cell? ⟨w.heap.size + 1, 3, none⟩ = some (.int .i64 0) := by rw [Lib.cell_of_heap hp3.h]; rfl
  clear hp3 hb3 cW HP y0 y1
  go_wp2
  refine bodyPost_ret (v := .agg #[.int .i64 0, .int .i64 line, .int .i64 0, .int .i64 e0]) (results_c rfl _ _ _ ⟨w.heap.size + 1, 0, none⟩ _ rfl (loadP (HP3.out.set _ _ _ _).h)) rfl ⟨rfl, (HP3.out.set _ _ _ _).b⟩
set_option maxHeartbeats 4000000 in
theorem foundA_any (line e0 : Int) (k : Nat) (A : Option Addr) (fs : List FieldD) (c : Nat) (w : World) (h : FieldsIn w (fun b => b < w.heap.size) A fs) (hk : k < fs.length) (hk5 : k < 5) :
    Calls Tryz.prog 71 #[.agg #[.int .i64 line, .slice A fs.length c], .int .i64 (k : Int), .int .i64 e0] w (FoundOut (.agg #[.int .i64 0, .int .i64 line, .int .i64 fs[k].2.1, .int .i64 e0]) w) := by
  obtain ⟨w1, w2, hw1, hw2, hs1, hp, hx0⟩ := Found_box line A fs.length c w
  have hz := hp.b.size
  have cA := at_any line e0 k A fs c w2 ((h.below hp.b).mono (fun b hb => Nat.lt_of_lt_of_le hb hz)) hk hk5
  obtain ⟨col, hc⟩ : ∃ col, fs[k].2.1 = col := ⟨_, rfl⟩
  rw [hc] at cA
  obtain ⟨F, hF⟩ : ∃ F, fs.length = F := ⟨_, rfl⟩
  rw [hF] at hw1 hx0 cA
  rw [hF, hc]
  have y0 : w2.cell? ⟨w.heap.size, 0, none⟩ = some (.int .i64 line) := by rw [Lib.cell_of_heap hx0]; rfl
  have y1 : w2.cell? ⟨w.heap.size, 1, none⟩ = some (.slice A F c) := by rw [Lib.cell_of_heap hx0]; rfl
  have CA := hid cA
  have HP := hid hp
  have hkz : ¬ (k : Int) < 0 := by omega
  clear hp hx0 cA h hc hF hk
  go_enter Tryz.func71, Tryz.ntmps71
  go_upto_region 3 with fail
  (try rw [hw1])
  (try rw [hw2])
  go_wp2_with fail
  refine CA.out.mono ?_
  rintro e w3 ⟨rfl, hb3⟩
  have hp3 := HP.out.next hb3
  have HP3 := hid hp3
  have f0 := hp3.free 0
  have f1 := hp3.free 1
  have f2 := hp3.free 2
  have f3 := hp3.free 3
  have z0 : w3.cell? ⟨w.heap.size + 1, 0, none⟩ = some (.int .i64 0) := by rw [Lib.cell_of_heap hp3.h]; rfl
  have z1 : w3.cell? ⟨w.heap.size + 1, 1, none⟩ = some (.int .i64 0) := by rw [Lib.cell_of_heap hp3.h]; rfl
  have z2 : w3.cell? ⟨w.heap.size + 1, 2, none⟩ = some (.int .i64 0) := by rw [Lib.cell_of_heap hp3.h]; rfl
  have z3 : w3.cell? ⟨w.heap.size + 1, 3, none⟩ = some (.int .i64 0) := by rw [Lib.cell_of_heap hp3.h]; rfl
  clear hp3 hb3 CA HP y0 y1
  go_wp2
  refine bodyPost_ret (v := .agg #[.int .i64 0, .int .i64 line, .int .i64 col, .int .i64 e0]) (results_c rfl _ _ _ ⟨w.heap.size + 1, 0, none⟩ _ rfl (loadP (HP3.out.set _ _ _ _).h)) rfl ⟨rfl, (HP3.out.set _ _ _ _).b⟩
end Go.Proofs.YtlgmanbilaminaaGreatDoor
namespace Go.Proofs.YtlgmanbilaminaaGreatDoor.S12
open Go Go.Proofs Go.RowKit Go.Lib Go.Proofs.YtlgmanbilaminaaGreatDoor Go.Proofs.YtlgmanbilaminaaGreatDoor.S10 Go.Proofs.YtlgmanbilaminaaGreatDoor.S11
theorem entry4 (f0 f1 f2 f3 : FieldD) :
    (S3.validC f0.1 = false → (entryM [f0, f1, f2, f3]).2 = (f0.2.1, 10)) ∧
    (S3.validC f0.1 = true → S3.validC f1.1 = false → (entryM [f0, f1, f2, f3]).2 = (f1.2.1, 10)) ∧
    (S3.validC f0.1 = true → S3.validC f1.1 = true → numD 1 f2.1 = 0 → (entryM [f0, f1, f2, f3]).2 = (f2.2.1, 4)) ∧
    (S3.validC f0.1 = true → S3.validC f1.1 = true → numD 1 f2.1 ≠ 0 → (insteadM f3.1 f1.1).2 ≠ 0 → (entryM [f0, f1, f2, f3]).2 = (f3.2.1, (insteadM f3.1 f1.1).2)) ∧
    (S3.validC f0.1 = true → S3.validC f1.1 = true → numD 1 f2.1 ≠ 0 → (insteadM f3.1 f1.1).2 = 0 → entryM [f0, f1, f2, f3] = (⟨f0.1, f1.1, ((numD 1 f2.1 : Nat) : Int), (insteadM f3.1 f1.1).1⟩, 0, 0)) := by
  refine ⟨?_, ?_, ?_, ?_, ?_⟩
  all_goals
    intros
    simp_all [entryM, efold, setF, zeroR, priM]
theorem recM_err {st : List ReqD × List ProbD} {line col e : Int} {fs : List FieldD} (h : (entryM fs).2 = (col, e)) (he : e ≠ 0) : recM st (line, fs) = (st.1, st.2 ++ [(line, col, e)]) := by
  unfold recM
  dsimp only
  rw [h, if_pos he]
theorem recM_add {st : List ReqD × List ProbD} {line : Int} {fs : List FieldD} {r : ReqD} (h : entryM fs = (r, 0, 0)) : recM st (line, fs) = if accM st.1 r ≠ 0 then (st.1, st.2 ++ [(line, 0, accM st.1 r)]) else (st.1 ++ [r], st.2) := by
  unfold recM
  dsimp only
  rw [h]
  simp
theorem acc_order (l : List ReqD) (r : ReqD) : accM l r = if (r.s, r.c) ∈ wishes l then 11 else if l.length = 400 then 2 else if (studs l).length = 64 ∧ r.s ∉ studs l then 2 else 0 := by
  unfold accM
  by_cases hw : (r.s, r.c) ∈ wishes l
  · rw [if_neg (fun k => k.1 (wish_stud hw)), if_pos hw, if_pos hw]
  · rw [if_neg hw, if_neg hw]
    by_cases h4 : l.length = 400
    · rw [if_pos h4, if_pos h4]
      split <;> rfl
    · rw [if_neg h4, if_neg h4]
      by_cases h6 : (studs l).length = 64 ∧ r.s ∉ studs l
      · rw [if_pos ⟨h6.2, h6.1⟩, if_pos h6]
      · rw [if_neg (fun k => h6 ⟨k.2, k.1⟩), if_neg h6]
def OneRd (rs : List ReqD) (line : Int) (fs : List FieldD) (r : ReqD) (k e0 : Int) : Prop :=
  (e0 ≠ 0 ∧ k = -1 ∧ ∀ ps, recM (rs, ps) (line, fs) = (rs, ps ++ [(line, 0, e0)])) ∨
  (e0 ≠ 0 ∧ (∃ (j : Nat) (hj : j < fs.length), j < 5 ∧ k = (j : Int) ∧ ∀ ps, recM (rs, ps) (line, fs) = (rs, ps ++ [(line, fs[j].2.1, e0)]))) ∨
  (e0 = 0 ∧ ∀ ps, recM (rs, ps) (line, fs) = (rs ++ [r], ps))
def ReqOut (l : List ReqD) (line : Int) (fs : List FieldD) (w : World) (e : Ending) (w' : World) : Prop :=
  (∃ (r : ReqD) (q : ReqA) (k e0 : Int), e = .returned (.tuple #[reqV r q, .int .i64 k, .int .i64 e0]) ∧ OneRd l line fs r k e0 ∧ (e0 = 0 → ReqIn w' (fun i => w.heap.size ≤ i ∧ i < w'.heap.size) r q)) ∧ Below w.heap.size w w'
theorem one_end {w W : World} {a : Act} {P : Ending → World → Prop} {k e0 : Int} {v0 v1 v2 v3 : Value} (hp : a.tmps.getD 4 undef = .pointer (some ⟨w.heap.size + 1, 0, none⟩)) (hk : a.tmps.getD 5 undef = .int .i64 k) (he : a.tmps.getD 6 undef = .int .i64 e0) (hd : a.defers = [])
    (hz : Box4 W (w.heap.size + 1) v0 v1 v2 v3) (hP : P (.returned (.tuple #[.agg #[v0, v1, v2, v3], .int .i64 k, .int .i64 e0])) W) : bodyPost Tryz.prog Tryz.f70 P Exit.ret a W :=
  bodyPost_ret (v := .tuple #[.agg #[v0, v1, v2, v3], .int .i64 k, .int .i64 e0]) (results_ctt rfl _ _ _ ⟨w.heap.size + 1, 0, none⟩ _ _ _ hp hk he (load4 hz.cells)) hd hP
structure OKQ (w0 : World) (v : Value) (v0 v1 v2 v3 : Value) (W : World) : Prop where
  x : W.cell? ⟨w0.heap.size, 1, none⟩ = some v
  z : Box4 W (w0.heap.size + 1) (.string ⟨#[]⟩) (.string ⟨#[]⟩) (.int .i64 0) (.slice none 0 0)
  r : Box4 W (w0.heap.size + 1 + 1) v0 v1 v2 v3
  bw : Below w0.heap.size w0 W
section
variable {w0 W W' : World} {v : Value} {v0 v1 v2 v3 : Value}
theorem OKQ.next (h : OKQ w0 v v0 v1 v2 v3 W) (k : Below W.heap.size W W') : OKQ w0 v v0 v1 v2 v3 W' :=
  ⟨(k.cell (p := ⟨w0.heap.size, 1, none⟩) (by have := h.r.lt; show w0.heap.size < _; omega)).trans h.x, h.z.next k, h.r.next k, h.bw.trans (k.mono h.bw.size)⟩
theorem OKQ.put2 (h : OKQ w0 v v0 v1 v2 v3 W) (u : Value) : OKQ w0 v v0 v1 u v3 (W.setCell ⟨w0.heap.size + 1 + 1, 2, none⟩ u) := by
  have k : Below (w0.heap.size + 1 + 1) W (W.setCell ⟨w0.heap.size + 1 + 1, 2, none⟩ u) := (Below.refl _ W).setCell (p := ⟨w0.heap.size + 1 + 1, 2, none⟩) (Nat.le_refl _) u
  exact ⟨(k.cell (p := ⟨w0.heap.size, 1, none⟩) (by show w0.heap.size < _; omega)).trans h.x, h.z.below k (by omega), ⟨by rw [heap_setCell_same W _ 2 _ _ u h.r.h]; rfl⟩, h.bw.trans (k.mono (by omega))⟩
theorem OKQ.put3 (h : OKQ w0 v v0 v1 v2 v3 W) (u : Value) : OKQ w0 v v0 v1 v2 u (W.setCell ⟨w0.heap.size + 1 + 1, 3, none⟩ u) := by
  have k : Below (w0.heap.size + 1 + 1) W (W.setCell ⟨w0.heap.size + 1 + 1, 3, none⟩ u) := (Below.refl _ W).setCell (p := ⟨w0.heap.size + 1 + 1, 3, none⟩) (Nat.le_refl _) u
  exact ⟨(k.cell (p := ⟨w0.heap.size, 1, none⟩) (by show w0.heap.size < _; omega)).trans h.x, h.z.below k (by omega), ⟨by rw [heap_setCell_same W _ 3 _ _ u h.r.h]; rfl⟩, h.bw.trans (k.mono (by omega))⟩
theorem OKQ.fin (h : OKQ w0 v v0 v1 v2 v3 W) (u0 u1 u2 u3 : Value) : Below w0.heap.size w0 ((((W.setCell ⟨w0.heap.size + 1, 0, none⟩ u0).setCell ⟨w0.heap.size + 1, 1, none⟩ u1).setCell ⟨w0.heap.size + 1, 2, none⟩ u2).setCell ⟨w0.heap.size + 1, 3, none⟩ u3) :=
  h.bw.trans (four_below W (w0.heap.size + 1) w0.heap.size (by omega) u0 u1 u2 u3)
end
structure OKB (w0 : World) (v : Value) (W : World) : Prop where
  x : W.cell? ⟨w0.heap.size, 1, none⟩ = some v
  z : Box4 W (w0.heap.size + 1) (.string ⟨#[]⟩) (.string ⟨#[]⟩) (.int .i64 0) (.slice none 0 0)
  bw : Below w0.heap.size w0 W
structure OKN (w0 : World) (v : Value) (W : World) : Prop where
  b : OKB w0 v W
  r : ∃ u0 u1 u2 u3, Box4 W (w0.heap.size + 1 + 1) u0 u1 u2 u3
section
variable {w0 W W' : World} {v : Value}
theorem OKN.stored (h : OKN w0 v W) (u0 u1 u2 u3 : Value) : OKQ w0 v u0 u1 u2 u3 ((((W.setCell ⟨w0.heap.size + 1 + 1, 0, none⟩ u0).setCell ⟨w0.heap.size + 1 + 1, 1, none⟩ u1).setCell ⟨w0.heap.size + 1 + 1, 2, none⟩ u2).setCell ⟨w0.heap.size + 1 + 1, 3, none⟩ u3) := by
  obtain ⟨z0, z1, z2, z3, hr⟩ := h.r
  have k := four_below W (w0.heap.size + 1 + 1) (w0.heap.size + 1 + 1) (Nat.le_refl _) u0 u1 u2 u3
  exact ⟨(k.cell (p := ⟨w0.heap.size, 1, none⟩) (by show w0.heap.size < _; omega)).trans h.b.x, h.b.z.below k (by omega), four_stored hr _ _ _ _, h.b.bw.trans (k.mono (by omega))⟩
theorem OKN.keep (h : OKN w0 v W) (u0 u1 u2 u3 : Value) : OKN w0 v ((((W.setCell ⟨w0.heap.size + 1 + 1, 0, none⟩ u0).setCell ⟨w0.heap.size + 1 + 1, 1, none⟩ u1).setCell ⟨w0.heap.size + 1 + 1, 2, none⟩ u2).setCell ⟨w0.heap.size + 1 + 1, 3, none⟩ u3) :=
  have k := h.stored u0 u1 u2 u3
  ⟨⟨k.x, k.z, k.bw⟩, _, _, _, _, k.r⟩
theorem OKB.mk1 (h : OKB w0 v W) (hs : W.heap.size = w0.heap.size + 1 + 1) (hb : Below W.heap.size W W') {z0 z1 z2 z3 : Value} (hD : Box4 W' W.heap.size z0 z1 z2 z3) : OKN w0 v W' :=
  ⟨⟨(hb.cell (p := ⟨w0.heap.size, 1, none⟩) (by show w0.heap.size < _; omega)).trans h.x, h.z.next hb, h.bw.trans (hb.mono h.bw.size)⟩, _, _, _, _, hs ▸ hD⟩
end
theorem four_elseQ (W : World) (R k : Nat) (hk : k ≠ R) (u0 u1 u2 u3 : Value) : ((((W.setCell ⟨R, 0, none⟩ u0).setCell ⟨R, 1, none⟩ u1).setCell ⟨R, 2, none⟩ u2).setCell ⟨R, 3, none⟩ u3).heap[k]? = W.heap[k]? := by
  rw [Below.heap_setCell _ ⟨R, 3, none⟩ _ k hk, Below.heap_setCell _ ⟨R, 2, none⟩ _ k hk, Below.heap_setCell _ ⟨R, 1, none⟩ _ k hk, Below.heap_setCell _ ⟨R, 0, none⟩ _ k hk]
theorem four_sizeQ (W : World) (R : Nat) (u0 u1 u2 u3 : Value) : ((((W.setCell ⟨R, 0, none⟩ u0).setCell ⟨R, 1, none⟩ u1).setCell ⟨R, 2, none⟩ u2).setCell ⟨R, 3, none⟩ u3).heap.size = W.heap.size := by simp [World.setCell]
set_option maxHeartbeats 16000000 in
set_option maxRecDepth 100000 in
theorem oneW_any (line : Int) (A' : Option Addr) (fs : List FieldD) (c' : Nat) (Ar : Option Addr) (l : List ReqD) (cr : Nat) (w : World) (h5 : fs.length ≠ 4) :
    Calls Tryz.prog 70 #[.agg #[.int .i64 line, .slice A' fs.length c'], .slice Ar l.length cr] w (ReqOut l line fs w) := by
  have hrec : Hid (∀ ps, recM (l, ps) (line, fs) = (l, ps ++ [(line, 0, 9)])) := hid (fun ps => recM_err (by unfold entryM; rw [if_pos h5]) (by decide))
  obtain ⟨F, hF⟩ : ∃ F, fs.length = F := ⟨_, rfl⟩
  rw [hF] at h5 ⊢
  have hn5 : ((F : Int) != 4) = true := by simp; omega
  obtain ⟨L, hL⟩ : ∃ L, l.length = L := ⟨_, rfl⟩
  rw [hL]
  clear hF hL h5
  have hz : Box4 ((w.alloc (.cells #[.int .i64 line, .slice A' F c'] 26)).alloc (.cells #[.string ⟨#[]⟩, .string ⟨#[]⟩, .int .i64 0, .slice none 0 0] 61)) (w.heap.size + 1) (.string ⟨#[]⟩) (.string ⟨#[]⟩) (.int .i64 0) (.slice none 0 0) := by
    simpa using Box4.new (w.alloc (.cells #[.int .i64 line, .slice A' F c'] 26)) (.string ⟨#[]⟩) (.string ⟨#[]⟩) (.int .i64 0) (.slice none 0 0)
  have hb2 : Below w.heap.size w ((w.alloc (.cells #[.int .i64 line, .slice A' F c'] 26)).alloc (.cells #[.string ⟨#[]⟩, .string ⟨#[]⟩, .int .i64 0, .slice none 0 0] 61)) := ((Below.refl _ w).alloc (Nat.le_refl _) _).alloc (by simp) _
  have hx2 : ((w.alloc (.cells #[.int .i64 line, .slice A' F c'] 26)).alloc (.cells #[.string ⟨#[]⟩, .string ⟨#[]⟩, .int .i64 0, .slice none 0 0] 61)).cell? ⟨w.heap.size, 1, none⟩ = some (.slice A' F c') := by
    have e1 := heap_alloc_new w (.cells #[.int .i64 line, .slice A' F c'] 26)
    have e2 := (Below.heap_alloc (w.alloc (.cells #[.int .i64 line, .slice A' F c'] 26)) (.cells #[.string ⟨#[]⟩, .string ⟨#[]⟩, .int .i64 0, .slice none 0 0] 61) w.heap.size (by simp)).trans e1
    rw [Lib.cell_of_heap e2]
    rfl
  have HZ := hid hz
  have HB := hid hb2
  clear hb2 hz
  go_enter Tryz.func70, Tryz.ntmps70
  go_upto_region 1 with fail
  generalize ((w.alloc (.cells #[.int .i64 line, .slice A' F c'] 26)).alloc (.cells #[.string ⟨#[]⟩, .string ⟨#[]⟩, .int .i64 0, .slice none 0 0] 61)) = w2 at HZ HB hx2 ⊢
  obtain ⟨z0, z1, z2, z3⟩ := HZ.out.cells
  have f0 := HZ.out.free 0
  have f1 := HZ.out.free 1
  have f2 := HZ.out.free 2
  have f3 := HZ.out.free 3
  go_wp2
  refine one_end (w := w) rfl rfl rfl rfl (four_stored HZ.out _ _ _ _) ⟨⟨zeroR, (none, 0), -1, 9, rfl, .inl ⟨by decide, rfl, hrec.out⟩, fun h => absurd h (by decide)⟩, ?_⟩
  exact HB.out.trans (four_below _ (w.heap.size + 1) w.heap.size (by omega) _ _ _ _)
set_option maxHeartbeats 32000000 in
set_option maxRecDepth 100000 in
theorem one4_any (line : Int) (A' : Option Addr) (x0 x1 x2 x3 : FieldD) (c' : Nat) (Ar : Option Addr) (l : List ReqD) (cr : Nat) (w : World)
    (hf : FieldsIn w (fun k => k < w.heap.size) A' [x0, x1, x2, x3]) (hr : ReqsIn w (fun k => k < w.heap.size) Ar l) (hl : l.length ≤ 400) (hls : ∀ r ∈ l, r.s.length ≤ 2097152) (hsz : ∀ f ∈ [x0, x1, x2, x3], f.1.length ≤ 2097152) :
    Calls Tryz.prog 70 #[.agg #[.int .i64 line, .slice A' 4 c'], .slice Ar l.length cr] w (ReqOut l line [x0, x1, x2, x3] w) := by
  obtain ⟨q1, q2, q3, q4, q5⟩ := entry4 x0 x1 x2 x3
  have Q1 := hid q1
  have Q2 := hid q2
  have Q3 := hid q3
  have Q4 := hid q4
  have Q5 := hid q5
  obtain ⟨fb, fo, rfl, hfb, hcells⟩ : ∃ fb fo, A' = some ⟨fb, fo, none⟩ ∧ fb < w.heap.size ∧ ∀ (j : Nat) (t : FieldD), [x0, x1, x2, x3][j]? = some t → ∀ (i : Nat) (v : Value), (fieldVs t)[i]? = some v → w.cell? ⟨fb, fo + j * 3 + i, none⟩ = some v := by
    rcases hf with h | ⟨b, off, hA, hP, hc⟩
    · cases h
    · exact ⟨b, off, hA, hP, hc⟩
  obtain ⟨X0, hX0⟩ : ∃ X, ba x0.1 = X := ⟨_, rfl⟩
  obtain ⟨X1, hX1⟩ : ∃ X, ba x1.1 = X := ⟨_, rfl⟩
  obtain ⟨X2, hX2⟩ : ∃ X, ba x2.1 = X := ⟨_, rfl⟩
  obtain ⟨X3, hX3⟩ : ∃ X, ba x3.1 = X := ⟨_, rfl⟩
  have LX0 : Hid (lst X0 = x0.1) := hid (by rw [← hX0]; rfl)
  have LX1 : Hid (lst X1 = x1.1) := hid (by rw [← hX1]; rfl)
  have LX2 : Hid (lst X2 = x2.1) := hid (by rw [← hX2]; rfl)
  have LX3 : Hid (lst X3 = x3.1) := hid (by rw [← hX3]; rfl)
  have BX0 : Hid (ba x0.1 = X0) := hid hX0
  have BX1 : Hid (ba x1.1 = X1) := hid hX1
  have hz3 : X3.size ≤ 2097152 := by rw [← hX3]; exact hsz x3 (by simp)
  have HF : Hid (∀ W, Below w.heap.size w W → W.cell? ⟨fb, fo, none⟩ = some (.string X0) ∧ W.cell? ⟨fb, fo + 3, none⟩ = some (.string X1) ∧ W.cell? ⟨fb, fo + 6, none⟩ = some (.string X2) ∧ W.cell? ⟨fb, fo + 9, none⟩ = some (.string X3)) := hid (fun W hb => by
    have k : ∀ o, W.cell? ⟨fb, o, none⟩ = w.cell? ⟨fb, o, none⟩ := fun o => hb.cell (p := ⟨fb, o, none⟩) hfb
    rw [k, k, k, k, ← hX0, ← hX1, ← hX2, ← hX3]
    exact ⟨hcells 0 x0 rfl 0 _ rfl, hcells 1 x1 rfl 0 _ rfl, hcells 2 x2 rfl 0 _ rfl, hcells 3 x3 rfl 0 _ rfl⟩)
  have HRI := hid hr
  have HLS := hid hls
  obtain ⟨LN, hLN⟩ : ∃ L, l.length = L := ⟨_, rfl⟩
  have HLN := hid hLN
  rw [hLN] at hl ⊢
  obtain ⟨w3, hw3⟩ : ∃ w3, (w.alloc (.cells #[.int .i64 line, .slice (some ⟨fb, fo, none⟩) 4 c'] 26)).alloc (.cells #[.string ⟨#[]⟩, .string ⟨#[]⟩, .int .i64 0, .slice none 0 0] 61) = w3 := ⟨_, rfl⟩
  obtain ⟨hx3, hzz3, hb3, hs3⟩ : w3.heap[w.heap.size]? = some (.cells #[.int .i64 line, .slice (some ⟨fb, fo, none⟩) 4 c'] 26 (0, 0)) ∧ Box4 w3 (w.heap.size + 1) (.string ⟨#[]⟩) (.string ⟨#[]⟩) (.int .i64 0) (.slice none 0 0) ∧ Below w.heap.size w w3 ∧ w3.heap.size = w.heap.size + 1 + 1 := by
    rw [← hw3]
    have hb1 := (Below.refl w.heap.size w).alloc (Nat.le_refl _) (.cells #[.int .i64 line, .slice (some ⟨fb, fo, none⟩) 4 c'] 26)
    have e1 := heap_alloc_new w (.cells #[.int .i64 line, .slice (some ⟨fb, fo, none⟩) 4 c'] 26)
    have hs1 : (w.alloc (.cells #[.int .i64 line, .slice (some ⟨fb, fo, none⟩) 4 c'] 26)).heap.size = w.heap.size + 1 := by simp
    generalize w.alloc (.cells #[.int .i64 line, .slice (some ⟨fb, fo, none⟩) 4 c'] 26) = u1 at hb1 e1 hs1 ⊢
    have g3 := Box4.new u1 (.string ⟨#[]⟩) (.string ⟨#[]⟩) (.int .i64 0) (.slice none 0 0)
    have hbx := (Below.refl u1.heap.size u1).alloc (Nat.le_refl _) (.cells #[.string ⟨#[]⟩, .string ⟨#[]⟩, .int .i64 0, .slice none 0 0] 61)
    refine ⟨(hbx.block _ (by omega)).trans e1, ?_, hb1.trans (hbx.mono (by omega)), by simp [hs1]⟩
    rw [← hs1]; exact g3
  have hw1 : w3.cell? ⟨w.heap.size, 1, none⟩ = some (.slice (some ⟨fb, fo, none⟩) 4 c') := by rw [Lib.cell_of_heap hx3]; rfl
  obtain ⟨y0, y1, -, -⟩ := HF.out w3 hb3
  have HOK0 : Hid (OKB w (.slice (some ⟨fb, fo, none⟩) 4 c') w3.drew) := hid ⟨hw1, hzz3.kept rfl, hb3.drew⟩
  have HS3 := hid hs3
  have HW3 := hid hw3
  have cV0 := fun w => S3.refValid_any X0 w
  rw [show X0.data.toList = x0.1 from LX0.out] at cV0
  obtain ⟨V0, hV0⟩ : ∃ V, S3.validC x0.1 = V := ⟨_, rfl⟩
  rw [hV0] at cV0
  have HV0 := hid hV0
  have CV := hid cV0
  have cV1 := fun w => S3.refValid_any X1 w
  rw [show X1.data.toList = x1.1 from LX1.out] at cV1
  obtain ⟨V1, hV1⟩ : ∃ V, S3.validC x1.1 = V := ⟨_, rfl⟩
  rw [hV1] at cV1
  have HV1 := hid hV1
  have CV1 := hid cV1
  clear q1 q2 q3 q4 q5 hf hcells hX0 hX1 hX2 hX3 hr hls hLN hx3 hzz3 hb3 hsz cV0 hV0 cV1 hV1
  go_enter Tryz.func70, Tryz.ntmps70
  go_upto_region 1 with fail
  (try rw [hw3])
  have hfb3 : fb < w3.heap.size := by omega
  clear hw3 hs3
  go_upto_region 4 with fail
  go_cut [8] (fun pv wx => pv = .pointer (some ⟨w.heap.size + 1 + 1, 0, none⟩) ∧ Hid (OKQ w (.slice (some ⟨fb, fo, none⟩) 4 c') (.string X0) (.string X1) (.int .i64 0) (.slice none 0 0) wx))
  case first =>
    refine wp_region_held_drew (S := OKB w (.slice (some ⟨fb, fo, none⟩) 4 c')) (by kernel_rfl) (HOK0.out) (fun hHeld => ?_)
    have hsd : w3.drew.heap.size = w.heap.size + 1 + 1 := HS3.out
    generalize w3.drew = wd at hHeld hsd ⊢
    (refine wpAnyH_take (i := 0) (oi := _) (v := ?_) rfl (by kernel_rfl) (by kernel_rfl) (by decide +kernel) (fun _ _ _ h => h) (Or.inl ⟨by rfl, ?_⟩) (by assumption) ?_; rotate_left; (intro wS hSw; skip; (try simp only [List.getElem_toArray, List.getElem_cons_zero]); go_simp; (try with_reducible rfl)))
    (try simp only [List.getElem_toArray, List.getElem_cons_zero, Act.put, List.setIfInBounds_toArray, List.set_cons_zero, List.set_cons_succ])
    (refine wpAnyH_take (i := 1) (oi := _) (v := ?_) rfl (by kernel_rfl) (by kernel_rfl) (by decide +kernel) (fun _ _ _ h => h) (Or.inl ⟨by rfl, ?_⟩) (by assumption) ?_; rotate_left; (intro wS hSw; skip; (try simp only [List.getElem_toArray, List.getElem_cons_succ, List.getElem_cons_zero]); go_simp; (try with_reducible rfl)))
    (try simp only [List.getElem_toArray, List.getElem_cons_succ, List.getElem_cons_zero, Act.put, List.setIfInBounds_toArray, List.set_cons_zero, List.set_cons_succ])
    (refine wpAnyH_take (i := 2) (oi := _) (v := ?_) rfl (by kernel_rfl) (by kernel_rfl) (by decide +kernel) (fun _ _ _ h => h) (Or.inl ⟨by rfl, ?_⟩) (by assumption) ?_; rotate_left; (intro wS hSw; skip; (try simp only [List.getElem_toArray, List.getElem_cons_succ, List.getElem_cons_zero]); go_simp; (try with_reducible rfl)))
    (try simp only [List.getElem_toArray, List.getElem_cons_succ, List.getElem_cons_zero, Act.put, List.setIfInBounds_toArray, List.set_cons_zero, List.set_cons_succ])
    (refine wpAnyH_take (i := 3) (oi := _) (v := ?_) rfl (by kernel_rfl) (by kernel_rfl) (by decide +kernel) (fun _ _ _ h => h) (Or.inl ⟨by rfl, ?_⟩) (by assumption) ?_; rotate_left; (intro wS hSw; obtain ⟨a0, a1, -, -⟩ := HF.out _ hSw.bw; (try simp only [List.getElem_toArray, List.getElem_cons_succ, List.getElem_cons_zero]); go_simp; (try with_reducible rfl)))
    (try simp only [List.getElem_toArray, List.getElem_cons_succ, List.getElem_cons_zero, Act.put, List.setIfInBounds_toArray, List.set_cons_zero, List.set_cons_succ])
    (refine wpAnyH_take (i := 4) (oi := _) (v := ?_) rfl (by kernel_rfl) (by kernel_rfl) (by decide +kernel) (fun _ _ _ h => h) (Or.inl ⟨by rfl, ?_⟩) (by assumption) ?_; rotate_left; (intro wS hSw; skip; (try simp only [List.getElem_toArray, List.getElem_cons_succ, List.getElem_cons_zero]); go_simp; (try with_reducible rfl)))
    (try simp only [List.getElem_toArray, List.getElem_cons_succ, List.getElem_cons_zero, Act.put, List.setIfInBounds_toArray, List.set_cons_zero, List.set_cons_succ])
    (refine wpAnyH_take (i := 5) (oi := _) (v := ?_) rfl (by kernel_rfl) (by kernel_rfl) (by decide +kernel) (fun _ _ _ h => h) (Or.inl ⟨by rfl, ?_⟩) (by assumption) ?_; rotate_left; (intro wS hSw; skip; (try simp only [List.getElem_toArray, List.getElem_cons_succ, List.getElem_cons_zero]); go_simp; (try with_reducible rfl)))
    (try simp only [List.getElem_toArray, List.getElem_cons_succ, List.getElem_cons_zero, Act.put, List.setIfInBounds_toArray, List.set_cons_zero, List.set_cons_succ])
    (refine wpAnyH_take (i := 6) (oi := _) (v := ?_) rfl (by kernel_rfl) (by kernel_rfl) (by decide +kernel) (fun _ _ _ h => h) (Or.inl ⟨by rfl, ?_⟩) (by assumption) ?_; rotate_left; (intro wS hSw; skip; (try simp only [List.getElem_toArray, List.getElem_cons_succ, List.getElem_cons_zero]); go_simp; (try with_reducible rfl)))
    (try simp only [List.getElem_toArray, List.getElem_cons_succ, List.getElem_cons_zero, Act.put, List.setIfInBounds_toArray, List.set_cons_zero, List.set_cons_succ])
    (refine wpAnyH_take (i := 7) (oi := _) (v := ?_) rfl (by kernel_rfl) (by kernel_rfl) (by decide +kernel) (fun _ _ _ h => h) (Or.inl ⟨by rfl, ?_⟩) (by assumption) ?_; rotate_left; (intro wS hSw; obtain ⟨a0, a1, -, -⟩ := HF.out _ hSw.bw; (try simp only [List.getElem_toArray, List.getElem_cons_succ, List.getElem_cons_zero]); go_simp; (try with_reducible rfl)))
    (try simp only [List.getElem_toArray, List.getElem_cons_succ, List.getElem_cons_zero, Act.put, List.setIfInBounds_toArray, List.set_cons_zero, List.set_cons_succ])
    (refine wpAnyH_take (i := 8) (oi := _) (v := ?_) rfl (by kernel_rfl) (by kernel_rfl) (by decide +kernel) (fun _ _ _ h => h) (Or.inl ⟨by rfl, ?_⟩) (by assumption) ?_; rotate_left; (intro wS hSw; skip; (try simp only [List.getElem_toArray, List.getElem_cons_succ, List.getElem_cons_zero]); go_simp; (try with_reducible rfl)))
    (try simp only [List.getElem_toArray, List.getElem_cons_succ, List.getElem_cons_zero, Act.put, List.setIfInBounds_toArray, List.set_cons_zero, List.set_cons_succ])
    refine wpAnyH_ready (rs := [9]) (by kernel_rfl) (by simp) ?_
    refine AllReadyH.cons (o := _) rfl (fun K hK => ?_) AllReadyH.nil
    (try simp only [List.getElem_toArray, List.getElem_cons_succ, List.getElem_cons_zero])
    go_simp
    have hD := Box4.new wd (.string ⟨#[]⟩) (.string ⟨#[]⟩) (.int .i64 0) (.slice none 0 0)
    have hb9 := (Below.refl wd.heap.size wd).alloc (Nat.le_refl _) (.cells #[.string ⟨#[]⟩, .string ⟨#[]⟩, .int .i64 0, .slice none 0 0] 61)
    have hN := hHeld.mk1 hsd hb9 hD
    generalize hwn : World.alloc _ _ = wn at hN hD ⊢
    refine hK.out _ _ hN.b (fun _ => ?_)
    clear hK K hwn hb9
    refine anyH_more (S' := OKN w (.slice (some ⟨fb, fo, none⟩) 4 c')) (fun _ hx => hx.b) _ _ _ _ ?_
    rw [hsd] at hD
    clear hHeld hsd
    (try simp only [List.getElem_toArray, List.getElem_cons_succ, List.getElem_cons_zero, Act.put, List.setIfInBounds_toArray, List.set_cons_zero, List.set_cons_succ])
    obtain ⟨y0, y1, y2, y3⟩ := hD.cells
    have f0 := hD.free 0
    have f1 := hD.free 1
    have f2 := hD.free 2
    have f3 := hD.free 3
    have HST := hid (hN.stored (.string X0) (.string X1) (.int .i64 0) (.slice none 0 0))
    refine wpAnyH_ready (rs := [10]) (by kernel_rfl) (by simp) ?_
    refine AllReadyH.cons (o := _) rfl (fun K hK => ?_) AllReadyH.nil
    (try simp only [List.getElem_toArray, List.getElem_cons_succ, List.getElem_cons_zero])
    go_simp
    refine hK.out _ _ (hN.keep _ _ _ _) (fun _ => ?_)
    clear hK K hN hD
    (try simp only [List.getElem_toArray, List.getElem_cons_succ, List.getElem_cons_zero, Act.put, List.setIfInBounds_toArray, List.set_cons_zero, List.set_cons_succ])
    refine wpAnyH_done (by kernel_rfl) ?_ _
    go_wp2_with fail
    go_meet
    exact ⟨rfl, HST⟩
  case rest =>
  obtain ⟨rfl, HK⟩ := hcut
  clear hw1 y0 y1 HOK0 HW3 HS3 hfb3
  obtain ⟨z0, z1, z2, z3⟩ := HK.out.z.cells
  have f0 := HK.out.z.free 0
  have f1 := HK.out.z.free 1
  have f2 := HK.out.z.free 2
  have f3 := HK.out.z.free 3
  obtain ⟨p0, p1, p2, p3⟩ := HK.out.r.cells
  go_wp2_with fail
  refine (CV.out wc).mono ?_
  rintro e w' ⟨rfl, rfl⟩
  cases V0 with
  | false =>
    have HEQ : Hid ((entryM [x0, x1, x2, x3]).2 = (x0.2.1, 10)) := hid (Q1.out HV0.out)
    go_wp2
    refine one_end (w := w) rfl rfl rfl rfl (four_stored HK.out.z _ _ _ _) ⟨⟨⟨x0.1, x1.1, 0, []⟩, (none, 0), (0 : Nat), 10, by rw [← BX0.out, ← BX1.out]; rfl, .inr (.inl ⟨by decide, ⟨0, by simp, by omega, rfl, fun ps => recM_err HEQ.out (by decide)⟩⟩), fun h => absurd h (by decide)⟩, HK.out.fin _ _ _ _⟩
  | true =>
  go_wp2_with fail
  refine (CV1.out wc).mono ?_
  rintro e w' ⟨rfl, rfl⟩
  cases V1 with
  | false =>
    have HEQ : Hid ((entryM [x0, x1, x2, x3]).2 = (x1.2.1, 10)) := hid (Q2.out HV0.out HV1.out)
    go_wp2
    refine one_end (w := w) rfl rfl rfl rfl (four_stored HK.out.z _ _ _ _) ⟨⟨⟨x0.1, x1.1, 0, []⟩, (none, 0), (1 : Nat), 10, by rw [← BX0.out, ← BX1.out]; rfl, .inr (.inl ⟨by decide, ⟨1, by simp, by omega, rfl, fun ps => recM_err HEQ.out (by decide)⟩⟩), fun h => absurd h (by decide)⟩, HK.out.fin _ _ _ _⟩
  | true =>
  have cD := digits1_any X2 wc
  have hdn := digQ_num x2.1
  rw [LX2.out] at cD
  obtain ⟨⟨dn, db⟩, hD⟩ : ∃ D, digQ x2.1 = D := ⟨_, rfl⟩
  rw [hD] at cD hdn
  dsimp only at cD hdn
  have CD := hid cD
  obtain ⟨g0, g1, g2, g3⟩ := HF.out _ HK.out.bw
  have gx := HK.out.x
  clear cD hD
  go_wp2_with fail
  refine CD.out.mono ?_
  rintro e w' ⟨rfl, rfl⟩
  by_cases hN : numD 1 x2.1 = 0
  · have HEQ : Hid ((entryM [x0, x1, x2, x3]).2 = (x2.2.1, 4)) := hid (Q3.out HV0.out HV1.out hN)
    have hor := hdn.1 hN
    clear hN hdn
    cases db with
    | false =>
      clear hor
      go_wp2
      refine one_end (w := w) rfl rfl rfl rfl (four_stored HK.out.z _ _ _ _) ⟨⟨⟨x0.1, x1.1, 0, []⟩, (none, 0), (2 : Nat), 4, by rw [← BX0.out, ← BX1.out]; rfl, .inr (.inl ⟨by decide, ⟨2, by simp, by omega, rfl, fun ps => recM_err HEQ.out (by decide)⟩⟩), fun h => absurd h (by decide)⟩, HK.out.fin _ _ _ _⟩
    | true =>
      have hd0 : dn = 0 := by
        rcases hor with h | h
        · cases h
        · exact h
      subst hd0
      clear hor
      go_wp2
      refine one_end (w := w) rfl rfl rfl rfl (four_stored HK.out.z _ _ _ _) ⟨⟨⟨x0.1, x1.1, 0, []⟩, (none, 0), (2 : Nat), 4, by rw [← BX0.out, ← BX1.out]; rfl, .inr (.inl ⟨by decide, ⟨2, by simp, by omega, rfl, fun ps => recM_err HEQ.out (by decide)⟩⟩), fun h => absurd h (by decide)⟩, HK.out.fin _ _ _ _⟩
  have hD2 := hdn.2 hN
  injection hD2 with hd1 hd2
  subst hd1 hd2
  obtain ⟨dn, hdn'⟩ : ∃ d, numD 1 x2.1 = d := ⟨_, rfl⟩
  have HDN := hid hdn'
  have HN0 := hid hN
  rw [hdn'] at hN CD ⊢
  have hnz : ((dn : Int) == 0) = false := by rw [beq_eq_false_iff_ne]; omega
  have hnz' : ¬ (dn : Int) = 0 := by omega
  have pf := HK.out.r.free 2
  have hk5 := HK.out.put2 (.int .i64 (dn : Int))
  obtain ⟨W5, hW5⟩ : ∃ W5, wc.setCell ⟨w.heap.size + 1 + 1, 2, none⟩ (.int .i64 (dn : Int)) = W5 := ⟨_, rfl⟩
  rw [hW5] at hk5
  have HW5 := hid hW5
  have HK5 := hid hk5
  clear hdn hdn' hk5 hW5 CD hN
  go_upto_region 13 with fail
  (try rw [HW5.out])
  clear HW5 HK z0 z1 z2 z3 f0 f1 f2 f3 p0 p1 p2 p3 g0 g1 g2 g3 gx pf
  have HK := HK5
  clear HK5
  obtain ⟨g0, g1, g2, g3⟩ := HF.out _ HK.out.bw
  have gx := HK.out.x
  obtain ⟨z0, z1, z2, z3⟩ := HK.out.z.cells
  have f0 := HK.out.z.free 0
  have f1 := HK.out.z.free 1
  have f2 := HK.out.z.free 2
  have f3 := HK.out.z.free 3
  obtain ⟨p0, p1, p2, p3⟩ := HK.out.r.cells
  have cT := short_any X3 hz3 W5
  rw [LX3.out] at cT
  obtain ⟨hs1, hs2⟩ := shortM_few x3.1
  obtain ⟨⟨TL, e4⟩, hT⟩ : ∃ T, shortM x3.1 = T := ⟨_, rfl⟩
  rw [hT] at cT hs1 hs2
  dsimp only at hs1 hs2
  have hin : insteadM x3.1 x1.1 = if e4 ≠ 0 then ([], e4) else if x1.1 ∈ TL then ([], 11) else (TL, 0) := by
    unfold insteadM
    rw [← hs1]
    by_cases he : e4 = 0
    · rw [← hs2 (by rw [← hs1]; exact he)]
    · rw [if_pos he, if_pos he]
  have HIN := hid hin
  obtain ⟨TN, hTN⟩ : ∃ TN, TL.length = TN := ⟨_, rfl⟩
  have HTN := hid hTN
  unfold S3.ListOut at cT
  have CT := hid cT
  clear cT hT hTN hs1 hs2 hin
  go_wp2_with fail
  refine CT.out.mono ?_
  rintro e w6 ⟨⟨v, rfl, hrow⟩, hb6⟩
  obtain ⟨A5, c5, rfl, h51, h52, h53⟩ := S3.StrRow.strsIn hrow
  have HK6 := hid (HK.out.next hb6)
  have H53 := hid (h53.mono (P' := fun k => w.heap.size + 1 + 1 + 1 ≤ k ∧ k < w6.heap.size) (fun k hk => ⟨by have h1 : W5.heap.size ≤ k := hk.1; have := HK.out.r.lt; omega, hk.2⟩))
  have H51 := hid (And.intro h51 h52)
  rw [HTN.out] at H51 ⊢
  clear hrow hb6 h53 h51 h52 g0 g1 g2 g3 gx z0 z1 z2 z3 f0 f1 f2 f3 p0 p1 p2 p3 CT HK
  have HK := HK6
  clear HK6
  obtain ⟨z0, z1, z2, z3⟩ := HK.out.z.cells
  have f0 := HK.out.z.free 0
  have f1 := HK.out.z.free 1
  have f2 := HK.out.z.free 2
  have f3 := HK.out.z.free 3
  obtain ⟨p0, p1, p2, p3⟩ := HK.out.r.cells
  by_cases he4 : e4 = 0
  · subst he4
    have cH := rhas_any A5 TL c5 X1 _ w6 H53.out (by rw [HTN.out]; have := H51.out; omega)
    rw [LX1.out, HTN.out] at cH
    obtain ⟨U, hU⟩ : ∃ U, decide (x1.1 ∈ TL) = U := ⟨_, rfl⟩
    rw [hU] at cH
    have HU := hid hU
    have CH := hid cH
    clear hU cH
    go_wp2_with fail
    refine CH.out.mono ?_
    rintro e w' ⟨rfl, rfl⟩
    cases U with
    | true =>
      have HEQ : Hid ((entryM [x0, x1, x2, x3]).2 = (x3.2.1, 11)) := hid (by
        have e : insteadM x3.1 x1.1 = ([], 11) := by rw [HIN.out, if_neg (by simp), if_pos (by simpa using HU.out)]
        have h := Q4.out HV0.out HV1.out (by rw [HDN.out]; rw [HDN.out] at HN0; exact HN0.out) (by rw [e]; decide)
        rw [e] at h
        exact h)
      go_wp2
      refine one_end (w := w) rfl rfl rfl rfl (four_stored HK.out.z _ _ _ _) ⟨⟨⟨x0.1, x1.1, (dn : Int), []⟩, (none, 0), (3 : Nat), 11, by rw [← BX0.out, ← BX1.out]; rfl, .inr (.inl ⟨by decide, ⟨3, by simp, by omega, rfl, fun ps => recM_err HEQ.out (by decide)⟩⟩), fun h => absurd h (by decide)⟩, HK.out.fin _ _ _ _⟩
    | false =>
      have HEN : Hid (entryM [x0, x1, x2, x3] = (⟨x0.1, x1.1, (dn : Int), TL⟩, 0, 0)) := hid (by
        have e : insteadM x3.1 x1.1 = (TL, 0) := by rw [HIN.out, if_neg (by simp), if_neg (by simpa using HU.out)]
        have h := Q5.out HV0.out HV1.out (by rw [HDN.out]; rw [HDN.out] at HN0; exact HN0.out) (by rw [e])
        rw [e, HDN.out] at h
        exact h)
      have pf := HK.out.r.free 3
      have hk7 := HK.out.put3 (.slice A5 TN c5)
      obtain ⟨W7, hW7⟩ : ∃ W7, w6.setCell ⟨w.heap.size + 1 + 1, 3, none⟩ (.slice A5 TN c5) = W7 := ⟨_, rfl⟩
      have htm : S3.StrsIn W7 (fun k => w.heap.size + 1 + 1 + 1 ≤ k ∧ k < W7.heap.size) A5 TL := by
        rw [← hW7]
        exact (H53.out.kept (fun k hk => Below.heap_setCell _ ⟨w.heap.size + 1 + 1, 3, none⟩ _ k (by show k ≠ w.heap.size + 1 + 1; have := hk.1; omega))).mono (fun k hk => ⟨hk.1, by simpa [World.setCell] using hk.2⟩)
      rw [hW7] at hk7
      have hri7 := (HRI.out.below hk7.bw).mono (P' := fun k => k < W7.heap.size) (fun k hk => Nat.lt_of_lt_of_le hk hk7.bw.size)
      have cI := rfind_any Ar l cr X0 X1 _ W7 hri7 (by rw [HLN.out]; omega)
      rw [LX0.out, LX1.out, HLN.out] at cI
      have hpos := idxP_pos (wishes l) (x0.1, x1.1)
      obtain ⟨J, hJ⟩ : ∃ J, idxP (wishes l) (x0.1, x1.1) 0 = J := ⟨_, rfl⟩
      rw [hJ] at cI hpos
      have cS := rstudents_any Ar l cr W7 hri7 (by rw [HLN.out]; omega) (fun r hr => by have := HLS.out r hr; omega)
      rw [HLN.out] at cS
      unfold S3.RowOut at cS
      have CI := hid cI
      have CS := hid cS
      have HW7 := hid hW7
      have HK7 := hid hk7
      have HTM := hid htm
      have hacc := acc_order l ⟨x0.1, x1.1, (dn : Int), TL⟩
      dsimp only at hacc
      rw [HLN.out] at hacc
      have HACC := hid hacc
      clear hk7 htm cI cS hJ hW7 hri7 hacc
      go_upto_region 19 with fail
      (try rw [HW7.out])
      clear HW7 HK z0 z1 z2 z3 f0 f1 f2 f3 p0 p1 p2 p3 pf
      have HK := HK7
      clear HK7
      obtain ⟨z0, z1, z2, z3⟩ := HK.out.z.cells
      have f0 := HK.out.z.free 0
      have f1 := HK.out.z.free 1
      have f2 := HK.out.z.free 2
      have f3 := HK.out.z.free 3
      obtain ⟨p0, p1, p2, p3⟩ := HK.out.r.cells
      go_wp2_with fail
      refine CI.out.mono ?_
      rintro e w' ⟨rfl, rfl⟩
      by_cases hm : (x0.1, x1.1) ∈ wishes l
      · have hJ0 : 0 ≤ J := hpos.2 hm
        have hJd : decide (0 ≤ J) = true := decide_eq_true hJ0
        have HREC : Hid (∀ ps, recM (l, ps) (line, [x0, x1, x2, x3]) = (l, ps ++ [(line, 0, 11)])) := hid (fun ps => by
          rw [recM_add HEN.out]
          dsimp only
          rw [HACC.out, if_pos hm]
          rfl)
        clear hpos hm
        go_wp2
        refine one_end (w := w) rfl rfl rfl rfl (four_stored HK.out.z _ _ _ _) ⟨⟨⟨x0.1, x1.1, (dn : Int), TL⟩, (A5, c5), -1, 11, by rw [← BX0.out, ← BX1.out, ← HTN.out]; rfl, .inl ⟨by decide, rfl, HREC.out⟩, fun h => absurd h (by decide)⟩, HK.out.fin _ _ _ _⟩
      · have hJ0 : ¬ 0 ≤ J := fun h => hm (hpos.1 h)
        have hJd : decide (0 ≤ J) = false := decide_eq_false hJ0
        have HNM := hid hm
        clear hpos hm
        go_wp2_with fail
        refine CS.out.mono ?_
        rintro e w8 ⟨⟨vs, rfl, hrs⟩, hb8⟩
        obtain ⟨As, cs, rfl, hs1, hs2, hs3⟩ := S3.StrRow.strsIn hrs
        have HK8 := hid (HK.out.next hb8)
        have HTM8 := hid ((HTM.out.kept (fun k hk => hb8.block k hk.2)).mono (P' := fun k => w.heap.size + 1 + 1 + 1 ≤ k ∧ k < w8.heap.size) (fun k hk => ⟨hk.1, Nat.lt_of_lt_of_le hk.2 hb8.size⟩))
        have cH := rhas_any As (studM l) cs X0 _ w8 hs3 (by omega)
        rw [LX0.out] at cH
        have hml : decide (x0.1 ∈ studM l) = decide (x0.1 ∈ studs l) := decide_eq_decide.2 (studM_perm l).mem_iff
        rw [hml] at cH
        obtain ⟨SN, hSN⟩ : ∃ F, (studM l).length = F := ⟨_, rfl⟩
        have hSN2 : (studs l).length = SN := by rw [← hSN]; exact (studM_perm l).length_eq.symm
        rw [hSN] at cH ⊢
        rw [hSN2] at HACC
        obtain ⟨U, hU⟩ : ∃ U, decide (x0.1 ∈ studs l) = U := ⟨_, rfl⟩
        rw [hU] at cH
        have CH := hid cH
        have HUS := hid hU
        clear hrs hb8 hs1 hs2 hs3 cH hml hSN hSN2 hU HTM HK z0 z1 z2 z3 f0 f1 f2 f3 p0 p1 p2 p3 CS CI
        have HK := HK8
        clear HK8
        obtain ⟨z0, z1, z2, z3⟩ := HK.out.z.cells
        have f0 := HK.out.z.free 0
        have f1 := HK.out.z.free 1
        have f2 := HK.out.z.free 2
        have f3 := HK.out.z.free 3
        obtain ⟨p0, p1, p2, p3⟩ := HK.out.r.cells
        have hbad : (LN = 400 ∨ (SN = 64 ∧ U = false)) → Hid (∀ ps, recM (l, ps) (line, [x0, x1, x2, x3]) = (l, ps ++ [(line, 0, 2)])) := fun h => hid (fun ps => by
          rw [recM_add HEN.out]
          dsimp only
          rw [HACC.out, if_neg HNM.out]
          have hc : (if LN = 400 then (2 : Int) else if SN = 64 ∧ x0.1 ∉ studs l then 2 else 0) = 2 := by
            by_cases h4 : LN = 400
            · rw [if_pos h4]
            · rw [if_neg h4]
              rcases h with h | ⟨h6, hu⟩
              · exact absurd h h4
              · exact if_pos ⟨h6, by have := HUS.out; rw [hu] at this; simpa using this⟩
          rw [hc]
          rfl)
        have hgood : LN ≠ 400 → ¬ (SN = 64 ∧ U = false) → Hid (∀ ps, recM (l, ps) (line, [x0, x1, x2, x3]) = (l ++ [⟨x0.1, x1.1, (dn : Int), TL⟩], ps)) := fun h4 h6 => hid (fun ps => by
          rw [recM_add HEN.out]
          dsimp only
          have hc : (if LN = 400 then (2 : Int) else if SN = 64 ∧ x0.1 ∉ studs l then 2 else 0) = 0 := by rw [if_neg h4]; exact if_neg (fun k => h6 ⟨k.1, by rw [← HUS.out]; simpa using k.2⟩)
          rw [HACC.out, if_neg HNM.out, hc]
          simp)
        by_cases h4 : LN = 400
        · have h4b : ((LN : Int) == 400) = true := by rw [h4]; rfl
          have HREC := hbad (.inl h4)
          clear hbad hgood h4
          go_wp2
          refine one_end (w := w) rfl rfl rfl rfl (four_stored HK.out.z _ _ _ _) ⟨⟨⟨x0.1, x1.1, (dn : Int), TL⟩, (A5, c5), -1, 2, by rw [← BX0.out, ← BX1.out, ← HTN.out]; rfl, .inl ⟨by decide, rfl, HREC.out⟩, fun h => absurd h (by decide)⟩, HK.out.fin _ _ _ _⟩
        · have h4b : ((LN : Int) == 400) = false := by rw [beq_eq_false_iff_ne]; omega
          by_cases h6 : SN = 64
          · have h6b : ((SN : Int) == 64) = true := by rw [h6]; rfl
            cases U with
            | false =>
              have HREC := hbad (.inr ⟨h6, rfl⟩)
              clear hbad hgood h4 h6
              go_wp2_with fail
              refine CH.out.mono ?_
              rintro e w' ⟨rfl, rfl⟩
              go_wp2
              refine one_end (w := w) rfl rfl rfl rfl (four_stored HK.out.z _ _ _ _) ⟨⟨⟨x0.1, x1.1, (dn : Int), TL⟩, (A5, c5), -1, 2, by rw [← BX0.out, ← BX1.out, ← HTN.out]; rfl, .inl ⟨by decide, rfl, HREC.out⟩, fun h => absurd h (by decide)⟩, HK.out.fin _ _ _ _⟩
            | true =>
              have HREC := hgood h4 (fun h => by cases h.2)
              clear hbad hgood h4 h6
              go_wp2_with fail
              refine CH.out.mono ?_
              rintro e w' ⟨rfl, rfl⟩
              go_wp2
              refine one_end (w := w) rfl rfl rfl rfl (four_stored HK.out.z _ _ _ _) ⟨⟨⟨x0.1, x1.1, (dn : Int), TL⟩, (A5, c5), 0, 0, by rw [← BX0.out, ← BX1.out, ← HTN.out]; rfl, .inr (.inr ⟨rfl, HREC.out⟩), fun _ => ?_⟩, HK.out.fin _ _ _ _⟩
              have hel := fun k (hk : k ≠ w.heap.size + 1) => four_elseQ w8 (w.heap.size + 1) k hk (.string X0) (.string X1) (.int .i64 (dn : Int)) (.slice A5 TN c5)
              have hes := four_sizeQ w8 (w.heap.size + 1) (.string X0) (.string X1) (.int .i64 (dn : Int)) (.slice A5 TN c5)
              have hcc := H51.out
              rw [← HTN.out] at hcc
              exact ⟨(HTM8.out.kept (fun k hk => hel k (by omega))).mono (fun k hk => ⟨by omega, by rw [hes]; exact hk.2⟩), hcc.1, hcc.2⟩
          · have h6b : ((SN : Int) == 64) = false := by rw [beq_eq_false_iff_ne]; omega
            have HREC := hgood h4 (fun h => h6 h.1)
            clear hbad hgood h4 h6
            go_wp2
            refine one_end (w := w) rfl rfl rfl rfl (four_stored HK.out.z _ _ _ _) ⟨⟨⟨x0.1, x1.1, (dn : Int), TL⟩, (A5, c5), 0, 0, by rw [← BX0.out, ← BX1.out, ← HTN.out]; rfl, .inr (.inr ⟨rfl, HREC.out⟩), fun _ => ?_⟩, HK.out.fin _ _ _ _⟩
            have hel := fun k (hk : k ≠ w.heap.size + 1) => four_elseQ w8 (w.heap.size + 1) k hk (.string X0) (.string X1) (.int .i64 (dn : Int)) (.slice A5 TN c5)
            have hes := four_sizeQ w8 (w.heap.size + 1) (.string X0) (.string X1) (.int .i64 (dn : Int)) (.slice A5 TN c5)
            have hcc := H51.out
            rw [← HTN.out] at hcc
            exact ⟨(HTM8.out.kept (fun k hk => hel k (by omega))).mono (fun k hk => ⟨by omega, by rw [hes]; exact hk.2⟩), hcc.1, hcc.2⟩
  · have hez : (e4 != 0) = true := by simpa using he4
    have hez2 : (e4 == 0) = false := by simpa using he4
    have HNE := hid he4
    have HEQ : Hid ((entryM [x0, x1, x2, x3]).2 = (x3.2.1, e4)) := hid (by
      have e : insteadM x3.1 x1.1 = ([], e4) := by rw [HIN.out, if_pos he4]
      have h := Q4.out HV0.out HV1.out (by rw [HDN.out]; rw [HDN.out] at HN0; exact HN0.out) (by rw [e]; exact he4)
      rw [e] at h
      exact h)
    clear he4
    go_wp2
    refine one_end (w := w) rfl rfl rfl rfl (four_stored HK.out.z _ _ _ _) ⟨⟨⟨x0.1, x1.1, (dn : Int), []⟩, (none, 0), (3 : Nat), e4, by rw [← BX0.out, ← BX1.out]; rfl, .inr (.inl ⟨HNE.out, ⟨3, by simp, by omega, rfl, fun ps => recM_err HEQ.out (HNE.out)⟩⟩), fun h => absurd h HNE.out⟩, HK.out.fin _ _ _ _⟩
theorem one_any (line : Int) (A' : Option Addr) (fs : List FieldD) (c' : Nat) (Ar : Option Addr) (l : List ReqD) (cr : Nat) (w : World)
    (hf : FieldsIn w (fun k => k < w.heap.size) A' fs) (hr : ReqsIn w (fun k => k < w.heap.size) Ar l) (hl : l.length ≤ 400) (hls : ∀ r ∈ l, r.s.length ≤ 2097152) (hsz : ∀ f ∈ fs, f.1.length ≤ 2097152) :
    Calls Tryz.prog 70 #[.agg #[.int .i64 line, .slice A' fs.length c'], .slice Ar l.length cr] w (ReqOut l line fs w) := by
  by_cases h5 : fs.length = 4
  · match fs, h5 with
    | [x0, x1, x2, x3], _ => exact one4_any line A' x0 x1 x2 x3 c' Ar l cr w hf hr hl hls hsz
  · exact oneW_any line A' fs c' Ar l cr w h5
end Go.Proofs.YtlgmanbilaminaaGreatDoor.S12
