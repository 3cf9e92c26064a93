/-
  Rooms and records that came in: what they hold, and how long their texts are. Conditions: as the lemmas state.
-/
import Derived.Test.YtnpfmoalgphkcaaGreatDoorVA01
import Derived.Test.YtnpfmoalgphkcaaGreatDoorVA02
import Derived.Test.YtnpfmoalgphkcaaGreatDoorVA03
import Derived.Test.YtnpfmoalgphkcaaGreatDoorVA04
import Derived.Test.YtnpfmoalgphkcaaGreatDoorVA05
import Derived.Test.YtnpfmoalgphkcaaGreatDoorVA06
import Derived.Test.YtnpfmoalgphkcaaGreatDoorVA07
import Derived.Test.YtnpfmoalgphkcaaGreatDoorVA08
import Derived.Test.YtnpfmoalgphkcaaGreatDoorVA09
import Derived.Test.YtnpfmoalgphkcaaGreatDoorVA10
import Derived.Test.YtnpfmoalgphkcaaGreatDoorVA11
import Derived.Test.YtnpfmoalgphkcaaGreatDoorVA12
import Derived.Test.YtnpfmoalgphkcaaGreatDoorVA13
import Derived.Test.YtnpfmoalgphkcaaGreatDoorVA14
import Derived.Test.YtnpfmoalgphkcaaGreatDoorVA15
import Derived.Test.YtnpfmoalgphkcaaGreatDoorVA16
import Derived.Test.YtnpfmoalgphkcaaGreatDoorVA17
import Derived.Test.YtnpfmoalgphkcaaGreatDoorVA18
import Derived.Test.YtnpfmoalgphkcaaGreatDoorVA19
import Derived.Test.YtnpfmoalgphkcaaGreatDoorVA20
import Derived.Test.YtnpfmoalgphkcaaGreatDoorVA21
import Derived.Test.YtnpfmoalgphkcaaGreatDoorVA22
import Derived.Test.YtnpfmoalgphkcaaGreatDoorVA23
import Derived.Test.YtnpfmoalgphkcaaGreatDoorVA24
import Derived.Test.YtnpfmoalgphkcaaGreatDoorVA25
import Derived.Test.YtnpfmoalgphkcaaGreatDoorVA26
import Derived.Test.YtnpfmoalgphkcaaGreatDoorVA27
import Derived.Test.YtnpfmoalgphkcaaGreatDoorVA28
import Derived.Test.YtnpfmoalgphkcaaGreatDoorVA29
import Derived.Test.YtnpfmoalgphkcaaGreatDoorVA30
import Derived.Test.YtnpfmoalgphkcaaGreatDoorVA31
import Derived.Test.YtnpfmoalgphkcaaGreatDoorWA01
import Derived.Test.YtnpfmoalgphkcaaGreatDoorWA02
import Derived.Test.YtnpfmoalgphkcaaGreatDoorWA03
import Derived.Test.YtnpfmoalgphkcaaGreatDoorWB01
import Derived.Test.YtnpfmoalgphkcaaGreatDoorProg
import Derived.WalkKit
import Derived.WalkSpells
import Derived.WalkLawsBesides
import Derived.Lib.Hide
import Derived.Deep.QuietTactic
import Derived.BigQuiet
import Derived.Laws.Rows
import Derived.OwnWalk
import Derived.Lib.BufferWrite
import Derived.Lib.UnsafeStr
import Derived.Laws.IdiomStrings
import Derived.Laws.BytesArg
import Derived.Laws.BytesString
import Derived.Laws.OwnMore
import Derived.Lib.IndexLaws
import Derived.Lib.ItoaNum
import Derived.Lib.Atoi
import Derived.Lib.Bytealg
import Derived.Deep.Slices
import Derived.Lib.SmallJoins
import Derived.Test.YtnpfmoalgphkcaaGreatDoorRows
set_option linter.unusedVariables false
set_option maxRecDepth 100000
namespace Go.Proofs.YtnpfmoalgphkcaaGreatDoor
open Go Go.Proofs Go.ChangeShapes Go.WideShapes Go.ChangeAt Go.RowKit Go.Lib Go.Deep

theorem cs4 : Tryz.prog.cellsOf 4 = 1 := by kernel_rfl
theorem csFields : Tryz.prog.cellsOf 40 = 1 := by kernel_rfl
theorem csField : Tryz.prog.cellsOf 94 = 3 := by kernel_rfl
theorem csRec : Tryz.prog.cellsOf 42 = 2 := by kernel_rfl
section
variable {H : Type} {enc : TypeId × Value → H} {W : World}
theorem three3 {cs : List Value} {a b c : Value} (hl : cs.length = 3) (h0 : cs[0]? = some a) (h1 : cs[1]? = some b) (h2 : cs[2]? = some c) : cs = [a, b, c] := by
  match cs, hl with
  | [c0, c1, c2], _ => simp at h0 h1 h2; simp [h0, h1, h2]
/-- A slice of fields, and what their texts weigh. -/
theorem open_fields7 {fuel : Nat} {v : Value} {x : DataW H × List MemPlace} (hf : DataW.trod enc Tryz.prog W 0 (fun _ => true) true fuel 40 [v] = some x) :
    ∃ (A : Option Addr) (l : List FieldD) (c : Nat), v = .slice A l.length c ∧ l.length ≤ c ∧ c ≤ maxLen ∧ FieldsIn W (fun b => b < W.heap.size) A l ∧
      ∃ ds rest : List (DataW H), (x.1 = .slice ds rest ∨ (x.1 = .nil ∧ ds = [])) ∧ ds.length = l.length ∧ ∀ (j : Nat) (f : FieldD), l[j]? = some f → ∃ d, ds[j]? = some d ∧ ∃ d1 d2, d = .agg [.lit (.string f.1), d1, d2] := by
  obtain ⟨A, l, c, hv, h1, h2, hc, hd⟩ := open_list (T := 40) (e := 94) Tryz.underlying40 csField (by omega) fieldVs (fun (f : FieldD) (d : DataW H) => ∃ d1 d2, d = .agg [.lit (.string f.1), d1, d2]) (fun _ => rfl) (fun n cs x h => by
    obtain ⟨y0, y1, y2, n, rfl, hl, h0, h1, h2⟩ := trod_struct3 Tryz.underlying94 h
    rw [csField] at hl
    dsimp only at h0 h1 h2
    rw [cs9] at h0
    rw [cs3] at h1
    rw [cs4] at h2
    obtain ⟨s, hc0, rfl, _⟩ := DataW.trod_string Tryz.underlying9 h0
    obtain ⟨z1, hc1, _, _⟩ := DataW.trod_int Tryz.underlying3 h1
    obtain ⟨b2, hc2, _⟩ := DataW.trod_bool Tryz.underlying4 h2
    exact ⟨(s.data.toList, z1, b2), three3 hl (tk1 hc0) (tk1 hc1) (tk1 hc2), _, _, rfl⟩) hf
  exact ⟨A, l, c, hv, h1, h2, hc, hd⟩
theorem bulk_all : ∀ (ds : List (DataW H)) (j : Nat) (d : DataW H), ds[j]? = some d → Rows.uptoBulk d ≤ Rows.uptoBulkAll ds
  | [], j, d, h => by simp at h
  | a :: r, 0, d, h => by
    simp at h
    subst h
    simp only [Rows.uptoBulkAll]
    omega
  | a :: r, j + 1, d, h => by
    have := bulk_all r j d (by simpa using h)
    simp only [Rows.uptoBulkAll]
    omega
theorem bulk_pos (d : DataW H) : 1 ≤ Rows.uptoBulk d := by
  cases d with
  | lit l => cases l <;> simp [Rows.uptoBulk]
  | _ => simp [Rows.uptoBulk]
theorem bulk_len : ∀ ds : List (DataW H), ds.length ≤ Rows.uptoBulkAll ds
  | [] => by simp
  | d :: r => by
    have := bulk_len r
    have := bulk_pos d
    simp only [Rows.uptoBulkAll, List.length_cons]
    omega
/-- A slice of records; their texts, and how many they are, against the bulk. -/
theorem open_recs7 {base : Nat} {v : Value} {d : DataW H} {p : List MemPlace} (hv : Value.okWide Tryz.prog W .any base 39 v) (h : DataW.Trod enc Tryz.prog W 0 (fun _ => true) true 39 v d p) :
    ∃ (A : Option Addr) (l : List RecD) (c : Nat), v = .slice A l.length c ∧ l.length ≤ c ∧ c ≤ maxLen ∧ RecsIn W (fun b => b < W.heap.size) A l ∧ l.length ≤ Rows.uptoBulk d ∧ ∀ r ∈ l, ∀ f ∈ r.2, f.1.length ≤ Rows.uptoBulk d := by
  obtain ⟨a0, len, cap, rfl⟩ := okWide_slice Tryz.underlying39 hv
  obtain ⟨fuel, hf⟩ := h
  obtain ⟨A, l, c, hv, h1, h2, hc, ds, rest, hds, hdl, hd⟩ := open_list (T := 39) (e := 42) Tryz.underlying39 csRec (by omega) (fun r : RecD × (Option Addr × Nat) => [Value.int .i64 r.1.1, Value.slice r.2.1 r.1.2.length r.2.2])
    (fun r (d : DataW H) => (FieldsIn W (fun b => b < W.heap.size) r.2.1 r.1.2 ∧ r.1.2.length ≤ r.2.2 ∧ r.2.2 ≤ 9223372036854775807) ∧ ∀ f ∈ r.1.2, f.1.length ≤ Rows.uptoBulk d) (fun _ => rfl) (fun n cs x h => by
    obtain ⟨y0, y1, n, rfl, hl, h0, h1⟩ := trod_struct2 Tryz.underlying42 h
    rw [csRec] at hl
    dsimp only at h0 h1
    rw [cs3] at h0
    rw [csFields] at h1
    obtain ⟨z0, hc0, _, _⟩ := DataW.trod_int Tryz.underlying3 h0
    obtain ⟨v1, hc1⟩ := tk1' (cs := cs) (k := 1) (by omega)
    rw [hc1] at h1
    obtain ⟨A1, l1, c1, rfl, q1, q2, q3, ds, rest, hds, hdl, hd⟩ := open_fields7 h1
    refine ⟨((z0, l1), (A1, c1)), two2 hl (tk1 hc0) (tk1 hc1), ⟨q3, q1, ?_⟩, fun f hf => ?_⟩
    · unfold maxLen at q2; show c1 ≤ _; omega
    · obtain ⟨j, hj, rfl⟩ := List.mem_iff_getElem.1 hf
      obtain ⟨d, hj', d1, d2, rfl⟩ := hd j _ (List.getElem?_eq_getElem hj)
      have h3 := bulk_all _ j _ hj'
      rcases hds with e | ⟨_, rfl⟩
      · rw [e]
        simp only [Rows.uptoBulk, Rows.uptoBulkAll] at h3 ⊢
        omega
      · simp at hj') (v := .slice a0 len cap) (x := (d, p)) hf
  refine ⟨A, l.map (·.1), c, by rw [List.length_map]; exact hv, by rw [List.length_map]; exact h1, h2, ?_, ?_, ?_⟩
  · rcases hc with h | ⟨b, off, hA, hb, hc⟩
    · exact .inl (by rw [h]; rfl)
    · refine .inr ⟨b, off, hA, hb, fun j r hj => ?_⟩
      rw [List.getElem?_map] at hj
      obtain ⟨y, hy, rfl⟩ := Option.map_eq_some_iff.1 hj
      obtain ⟨d', _, ⟨g1, g2, g3⟩, _⟩ := hd j y hy
      exact ⟨y.2.1, y.2.2, g1, g2, g3, hc j y hy 0 _ rfl, hc j y hy 1 _ rfl⟩
  · rw [List.length_map, ← hdl]
    have := bulk_len ds
    rcases hds with e | ⟨_, rfl⟩
    · dsimp only at e
      rw [e]
      simp only [Rows.uptoBulk]
      omega
    · simp
  · intro r hr f hf
    obtain ⟨y, hy, rfl⟩ := List.mem_map.1 hr
    obtain ⟨j, hj, rfl⟩ := List.mem_iff_getElem.1 hy
    obtain ⟨d', hj', _, hb⟩ := hd j _ (List.getElem?_eq_getElem hj)
    have h3 := bulk_all _ j _ hj'
    have h4 := hb f hf
    rcases hds with e | ⟨_, rfl⟩
    · dsimp only at e
      rw [e]
      simp only [Rows.uptoBulk]
      omega
    · simp at hj'
end
end Go.Proofs.YtnpfmoalgphkcaaGreatDoor

