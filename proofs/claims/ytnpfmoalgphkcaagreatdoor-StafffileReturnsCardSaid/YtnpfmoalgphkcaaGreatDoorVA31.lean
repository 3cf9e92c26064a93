/-
  Rooms and records that came in: what they hold, and how long their texts are. Conditions: as the lemmas state.
  A grid that came in. Conditions: as the lemma states.
  Lecturers, and a time, that came in. Conditions: as the lemmas state.
-/
import Derived.Test.YtnpfmoalgphkcaaGreatDoorVA30
import Derived.Test.YtnpfmoalgphkcaaGreatDoorRows
import Derived.Test.YtnpfmoalgphkcaaGreatDoorVA19
import Derived.Lib.SmallJoins
import Derived.WalkKit
set_option linter.unusedVariables false
set_option maxRecDepth 100000
namespace Go.Proofs.YtnpfmoalgphkcaaGreatDoor
open Go Go.Proofs Go.ChangeShapes Go.WideShapes Go.ChangeAt Go.RowKit Go.Lib Go.Deep

theorem cs3 : Tryz.prog.cellsOf 3 = 1 := by kernel_rfl
theorem cs9 : Tryz.prog.cellsOf 9 = 1 := by kernel_rfl
theorem csTimes : Tryz.prog.cellsOf 32 = 1 := by kernel_rfl
theorem csTime : Tryz.prog.cellsOf 26 = 4 := by kernel_rfl
instance : Inhabited Room5 := ⟨⟨none, 0, none, 0⟩⟩
section
variable {H : Type} {enc : TypeId × Value → H} {W : World}
theorem tk1 {cs : List Value} {k : Nat} {v : Value} (h : (cs.drop k).take 1 = [v]) : cs[k]? = some v := by
  have := congrArg (·[0]?) h
  simpa [List.getElem?_take, List.getElem?_drop] using this
theorem tk1' {cs : List Value} {k : Nat} (h : k < cs.length) : ∃ v, (cs.drop k).take 1 = [v] := by
  refine ⟨cs[k], ?_⟩
  rw [List.drop_eq_getElem_cons h]
  rfl
theorem i64_hi {z : Int} (h : (Lit.int IntKind.i64 z).wf = true) : z ≤ 9223372036854775807 := (bounds_i64 h).2
theorem four4 {cs : List Value} {a b c d : Value} (hl : cs.length = 4) (h0 : cs[0]? = some a) (h1 : cs[1]? = some b) (h2 : cs[2]? = some c) (h3 : cs[3]? = some d) : cs = [a, b, c, d] := by
  match cs, hl with
  | [c0, c1, c2, c3], _ => simp at h0 h1 h2 h3; simp [h0, h1, h2, h3]
theorem two2 {cs : List Value} {a b : Value} (hl : cs.length = 2) (h0 : cs[0]? = some a) (h1 : cs[1]? = some b) : cs = [a, b] := by
  match cs, hl with
  | [c0, c1], _ => simp at h0 h1; simp [h0, h1]
/-- A slice of times. -/
theorem open_times7 {fuel : Nat} {v : Value} {x : DataW H × List MemPlace} (hf : DataW.trod enc Tryz.prog W 0 (fun _ => true) true fuel 32 [v] = some x) :
    ∃ (A : Option Addr) (l : List TimeD) (c : Nat), v = .slice A l.length c ∧ l.length ≤ c ∧ c ≤ maxLen ∧ TimesIn W (fun b => b < W.heap.size) A l := by
  obtain ⟨A, l, c, hv, h1, h2, hc, ds, rest, _, _, hd⟩ := open_list (T := 32) (e := 26) Tryz.underlying32 csTime (by omega) timeVs (fun t _ => t.2.2.1 ≤ 9223372036854775807) (fun _ => rfl) (fun n cs x h => by
    obtain ⟨y0, y1, y2, y3, n, hx, hl, h0, h1, h2, h3⟩ := Joins.trod_struct4 Tryz.underlying26 h
    rw [csTime] at hl
    dsimp only at h0 h1 h2 h3
    rw [cs3] at h0 h1 h2 h3
    obtain ⟨z0, hc0, _, _⟩ := DataW.trod_int Tryz.underlying3 h0
    obtain ⟨z1, hc1, _, _⟩ := DataW.trod_int Tryz.underlying3 h1
    obtain ⟨z2, hc2, _, b2⟩ := DataW.trod_int Tryz.underlying3 h2
    obtain ⟨z3, hc3, _, _⟩ := DataW.trod_int Tryz.underlying3 h3
    exact ⟨(z0, z1, z2, z3), four4 hl (tk1 hc0) (tk1 hc1) (tk1 hc2) (tk1 hc3), i64_hi b2⟩) hf
  refine ⟨A, l, c, hv, h1, h2, fun t ht => ?_, hc⟩
  obtain ⟨j, hj, rfl⟩ := List.mem_iff_getElem.1 ht
  obtain ⟨d, _, h⟩ := hd j _ (List.getElem?_eq_getElem hj)
  exact h
end
end Go.Proofs.YtnpfmoalgphkcaaGreatDoor

set_option linter.unusedVariables false
set_option maxRecDepth 100000
namespace Go.Proofs.YtnpfmoalgphkcaaGreatDoor
open Go Go.Proofs Go.ChangeShapes Go.WideShapes Go.ChangeAt Go.RowKit

theorem open_grid7 {H : Type} {enc : TypeId × Value → H} {W : World} {base : Nat} {v : Value} {d : DataW H} {p : List MemPlace} (hv : Value.okWide Tryz.prog W .any base 24 v) (h : DataW.Trod enc Tryz.prog W 0 (fun _ => true) true 24 v d p) :
    ∃ a b x z : Int, v = .agg #[.int .i64 a, .int .i64 b, .int .i64 x, .int .i64 z] := by
  obtain ⟨v0, v1, v2, v3, y0, y1, y2, y3, n, rfl, rfl, rfl, t0, t1, t2, t3⟩ := Joins.open_agg4 Tryz.underlying24 (by kernel_rfl) (by kernel_rfl) hv h
  obtain ⟨x0, e0, rfl, w0⟩ := DataW.trod_int Tryz.underlying3 t0
  obtain ⟨x1, e1, rfl, w1⟩ := DataW.trod_int Tryz.underlying3 t1
  obtain ⟨x2, e2, rfl, w2⟩ := DataW.trod_int Tryz.underlying3 t2
  obtain ⟨x3, e3, rfl, w3⟩ := DataW.trod_int Tryz.underlying3 t3
  simp at e0 e1 e2 e3
  subst e0 e1 e2 e3
  exact ⟨x0, x1, x2, x3, rfl⟩
end Go.Proofs.YtnpfmoalgphkcaaGreatDoor

set_option linter.unusedVariables false
set_option maxRecDepth 100000
namespace Go.Proofs.YtnpfmoalgphkcaaGreatDoor
open Go Go.Proofs Go.ChangeShapes Go.WideShapes Go.ChangeAt Go.RowKit Go.Lib Go.Deep

theorem csLect : Tryz.prog.cellsOf 34 = 2 := by kernel_rfl
section
variable {H : Type} {enc : TypeId × Value → H} {W : World}
/-- A slice of lecturers. -/
theorem open_lects9 {base : Nat} {v : Value} {d : DataW H} {p : List MemPlace} (hv : Value.okWide Tryz.prog W .any base 22 v) (h : DataW.Trod enc Tryz.prog W 0 (fun _ => true) true 22 v d p) :
    ∃ (A : Option Addr) (l : List LectD) (c : Nat), v = .slice A l.length c ∧ l.length ≤ c ∧ c ≤ maxLen ∧ LectsIn W (fun b => b < W.heap.size) A l := by
  obtain ⟨a0, len, cap, rfl⟩ := okWide_slice Tryz.underlying22 hv
  obtain ⟨fuel, hf⟩ := h
  obtain ⟨A, l, c, hv, h1, h2, hc, ds, rest, _, _, hd⟩ := open_list (T := 22) (e := 34) Tryz.underlying22 csLect (by omega) (fun r : LectD × LectA => lectVs r.1 r.2) (fun r _ => LectIn W (fun b => b < W.heap.size) r.1 r.2) (fun _ => rfl) (fun n cs x h => by
    obtain ⟨y0, y1, n, rfl, hl, h0, h1⟩ := trod_struct2 Tryz.underlying34 h
    rw [csLect] at hl
    dsimp only at h0 h1
    rw [cs9] at h0
    rw [csTimes] at h1
    obtain ⟨s0, hc0, _, _⟩ := DataW.trod_string Tryz.underlying9 h0
    obtain ⟨v1, hc1⟩ := tk1' (cs := cs) (k := 1) (by omega)
    rw [hc1] at h1
    obtain ⟨A2, l2, c2, rfl, r1, r2, r3⟩ := open_times7 h1
    refine ⟨((s0.data.toList, l2), (A2, c2)), two2 hl (tk1 hc0) (tk1 hc1), r3, r1, ?_⟩
    unfold maxLen at r2; show c2 ≤ _; omega) (v := .slice a0 len cap) (x := (d, p)) hf
  refine ⟨A, l.map (·.1), c, by rw [List.length_map]; exact hv, by rw [List.length_map]; exact h1, h2, ?_⟩
  rcases hc with h | ⟨b, off, hA, hb, hc⟩
  · exact .inl (by rw [h]; rfl)
  · refine .inr ⟨b, off, hA, hb, fun j r hj => ?_⟩
    rw [List.getElem?_map] at hj
    obtain ⟨y, hy, rfl⟩ := Option.map_eq_some_iff.1 hj
    obtain ⟨d', _, hok⟩ := hd j y hy
    exact ⟨y.2, hok, hc j y hy⟩
/-- A time. -/
theorem open_time9 {base : Nat} {v : Value} {d : DataW H} {p : List MemPlace} (hv : Value.okWide Tryz.prog W .any base 26 v) (h : DataW.Trod enc Tryz.prog W 0 (fun _ => true) true 26 v d p) :
    ∃ t : TimeD, v = timeV t ∧ t.2.2.1 ≤ 9223372036854775807 := by
  obtain ⟨v0, v1, v2, v3, y0, y1, y2, y3, n, rfl, rfl, rfl, t0, t1, t2, t3⟩ := Joins.open_agg4 Tryz.underlying26 (by kernel_rfl) (by kernel_rfl) hv h
  obtain ⟨x0, e0, rfl, w0⟩ := DataW.trod_int Tryz.underlying3 t0
  obtain ⟨x1, e1, rfl, w1⟩ := DataW.trod_int Tryz.underlying3 t1
  obtain ⟨x2, e2, rfl, w2⟩ := DataW.trod_int Tryz.underlying3 t2
  obtain ⟨x3, e3, rfl, w3⟩ := DataW.trod_int Tryz.underlying3 t3
  simp at e0 e1 e2 e3
  subst e0 e1 e2 e3
  exact ⟨(x0, x1, x2, x3), rfl, i64_hi w2⟩
end
end Go.Proofs.YtnpfmoalgphkcaaGreatDoor

