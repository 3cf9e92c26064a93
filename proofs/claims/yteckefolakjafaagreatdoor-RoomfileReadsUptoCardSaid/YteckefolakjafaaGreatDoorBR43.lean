/-
  Rooms and records that came in: what they hold, and how long their texts are. Conditions: as the lemmas state.
  A grid that came in. Conditions: as the lemma states.
-/
import Derived.Test.YteckefolakjafaaGreatDoorBR42
import Derived.Test.YteckefolakjafaaGreatDoorRows
import Derived.Lib.SmallJoins
import Derived.WalkKit
set_option linter.unusedVariables false
set_option maxRecDepth 100000
namespace Go.Proofs.YteckefolakjafaaGreatDoor
open Go Go.Proofs Go.ChangeShapes Go.WideShapes Go.ChangeAt Go.RowKit Go.Lib Go.Deep

theorem cs3 : Tryz.prog.cellsOf 3 = 1 := by kernel_rfl
theorem cs4 : Tryz.prog.cellsOf 4 = 1 := by kernel_rfl
theorem cs9 : Tryz.prog.cellsOf 9 = 1 := by kernel_rfl
theorem csStrs : Tryz.prog.cellsOf 43 = 1 := by kernel_rfl
theorem csTimes : Tryz.prog.cellsOf 44 = 1 := by kernel_rfl
theorem csFields : Tryz.prog.cellsOf 34 = 1 := by kernel_rfl
theorem csTime : Tryz.prog.cellsOf 55 = 4 := by kernel_rfl
theorem csField : Tryz.prog.cellsOf 81 = 3 := by kernel_rfl
theorem csRec : Tryz.prog.cellsOf 36 = 2 := by kernel_rfl
theorem csRoom : Tryz.prog.cellsOf 46 = 5 := by kernel_rfl
instance : Inhabited Room5 := ⟨⟨none, 0, none, 0⟩⟩
section
variable {H : Type} {enc : TypeId × Value → H} {W : World}
theorem tk1 {cs : List Value} {k : Nat} {v : Value} (h : (cs.drop k).take 1 = [v]) : cs[k]? = some v := by
  have := congrArg (·[0]?) h
  simpa [List.getElem?_take, List.getElem?_drop] using this
theorem tk1' {cs : List Value} {k : Nat} (h : k < cs.length) : ∃ v, (cs.drop k).take 1 = [v] := by
  refine ⟨cs[k], ?_⟩
  rw [List.drop_eq_getElem_cons h]
  rfl
theorem i64_hi {z : Int} (h : (Lit.int IntKind.i64 z).wf = true) : z ≤ 9223372036854775807 := (bounds_i64 h).2
theorem four4 {cs : List Value} {a b c d : Value} (hl : cs.length = 4) (h0 : cs[0]? = some a) (h1 : cs[1]? = some b) (h2 : cs[2]? = some c) (h3 : cs[3]? = some d) : cs = [a, b, c, d] := by
  match cs, hl with
  | [c0, c1, c2, c3], _ => simp at h0 h1 h2 h3; simp [h0, h1, h2, h3]
theorem three3 {cs : List Value} {a b c : Value} (hl : cs.length = 3) (h0 : cs[0]? = some a) (h1 : cs[1]? = some b) (h2 : cs[2]? = some c) : cs = [a, b, c] := by
  match cs, hl with
  | [c0, c1, c2], _ => simp at h0 h1 h2; simp [h0, h1, h2]
theorem two2 {cs : List Value} {a b : Value} (hl : cs.length = 2) (h0 : cs[0]? = some a) (h1 : cs[1]? = some b) : cs = [a, b] := by
  match cs, hl with
  | [c0, c1], _ => simp at h0 h1; simp [h0, h1]
theorem five5 {cs : List Value} {a b c d e : Value} (hl : cs.length = 5) (h0 : cs[0]? = some a) (h1 : cs[1]? = some b) (h2 : cs[2]? = some c) (h3 : cs[3]? = some d) (h4 : cs[4]? = some e) : cs = [a, b, c, d, e] := by
  match cs, hl with
  | [c0, c1, c2, c3, c4], _ => simp at h0 h1 h2 h3 h4; simp [h0, h1, h2, h3, h4]
theorem trod_struct5 {t : TypeId} {f0 f1 f2 f3 f4 : Field} {fuel : Nat} {cs : List Value} {x : DataW H × List MemPlace} {spare : Nat → Bool} {held : Bool} {base : Nat} (ht : Tryz.prog.underlying t = some (.struct #[f0, f1, f2, f3, f4])) (h : DataW.trod enc Tryz.prog W base spare held fuel t cs = some x) :
    ∃ y0 y1 y2 y3 y4 n, x = (.agg [y0.1, y1.1, y2.1, y3.1, y4.1], y0.2 ++ (y1.2 ++ (y2.2 ++ (y3.2 ++ y4.2)))) ∧ cs.length = Tryz.prog.cellsOf t ∧ DataW.trod enc Tryz.prog W base spare held n f0.type ((cs.drop f0.offset).take (Tryz.prog.cellsOf f0.type)) = some y0 ∧
      DataW.trod enc Tryz.prog W base spare held n f1.type ((cs.drop f1.offset).take (Tryz.prog.cellsOf f1.type)) = some y1 ∧ DataW.trod enc Tryz.prog W base spare held n f2.type ((cs.drop f2.offset).take (Tryz.prog.cellsOf f2.type)) = some y2 ∧
      DataW.trod enc Tryz.prog W base spare held n f3.type ((cs.drop f3.offset).take (Tryz.prog.cellsOf f3.type)) = some y3 ∧ DataW.trod enc Tryz.prog W base spare held n f4.type ((cs.drop f4.offset).take (Tryz.prog.cellsOf f4.type)) = some y4 := by
  obtain ⟨xs, n, _, rfl, hl, hlen, hf⟩ := DataW.trod_struct ht h
  match xs, hlen with
  | [y0, y1, y2, y3, y4], _ => exact ⟨y0, y1, y2, y3, y4, n, by simp, hl, by simpa using hf 0 f0 rfl, by simpa using hf 1 f1 rfl, by simpa using hf 2 f2 rfl, by simpa using hf 3 f3 rfl, by simpa using hf 4 f4 rfl⟩
/-- A slice of strings. -/
theorem open_strs7 {fuel : Nat} {v : Value} {x : DataW H × List MemPlace} (hf : DataW.trod enc Tryz.prog W 0 (fun _ => true) true fuel 43 [v] = some x) :
    ∃ (A : Option Addr) (l : List Str) (c : Nat), v = .slice A l.length c ∧ l.length ≤ c ∧ c ≤ maxLen ∧ S3.StrsIn W (fun b => b < W.heap.size) A l := by
  obtain ⟨A, l, c, hv, h1, h2, hc, _⟩ := open_list (T := 43) (e := 9) Tryz.underlying43 cs9 (by omega) (fun s : Str => [Value.string (ba s)]) (fun _ _ => True) (fun _ => rfl) (fun n cs x h => by
    obtain ⟨s, rfl, _, _⟩ := DataW.trod_string Tryz.underlying9 h
    exact ⟨s.data.toList, rfl, trivial⟩) hf
  refine ⟨A, l, c, hv, h1, h2, ?_⟩
  rcases hc with h | ⟨b, off, hA, hb, hc⟩
  · exact .inl h
  · refine .inr ⟨b, off, hA, hb, fun j s hj => ?_⟩
    have h := hc j s hj 0 _ rfl
    rw [show off + j * 1 + 0 = off + j by omega] at h
    exact h
/-- A slice of times. -/
theorem open_times7 {fuel : Nat} {v : Value} {x : DataW H × List MemPlace} (hf : DataW.trod enc Tryz.prog W 0 (fun _ => true) true fuel 44 [v] = some x) :
    ∃ (A : Option Addr) (l : List TimeD) (c : Nat), v = .slice A l.length c ∧ l.length ≤ c ∧ c ≤ maxLen ∧ TimesIn W (fun b => b < W.heap.size) A l := by
  obtain ⟨A, l, c, hv, h1, h2, hc, ds, rest, _, _, hd⟩ := open_list (T := 44) (e := 55) Tryz.underlying44 csTime (by omega) timeVs (fun t _ => t.2.2.1 ≤ 9223372036854775807) (fun _ => rfl) (fun n cs x h => by
    obtain ⟨y0, y1, y2, y3, n, hx, hl, h0, h1, h2, h3⟩ := Joins.trod_struct4 Tryz.underlying55 h
    rw [csTime] at hl
    dsimp only at h0 h1 h2 h3
    rw [cs3] at h0 h1 h2 h3
    obtain ⟨z0, hc0, _, _⟩ := DataW.trod_int Tryz.underlying3 h0
    obtain ⟨z1, hc1, _, _⟩ := DataW.trod_int Tryz.underlying3 h1
    obtain ⟨z2, hc2, _, b2⟩ := DataW.trod_int Tryz.underlying3 h2
    obtain ⟨z3, hc3, _, _⟩ := DataW.trod_int Tryz.underlying3 h3
    exact ⟨(z0, z1, z2, z3), four4 hl (tk1 hc0) (tk1 hc1) (tk1 hc2) (tk1 hc3), i64_hi b2⟩) hf
  refine ⟨A, l, c, hv, h1, h2, fun t ht => ?_, hc⟩
  obtain ⟨j, hj, rfl⟩ := List.mem_iff_getElem.1 ht
  obtain ⟨d, _, h⟩ := hd j _ (List.getElem?_eq_getElem hj)
  exact h
/-- A slice of fields, and what their texts weigh. -/
theorem open_fields7 {fuel : Nat} {v : Value} {x : DataW H × List MemPlace} (hf : DataW.trod enc Tryz.prog W 0 (fun _ => true) true fuel 34 [v] = some x) :
    ∃ (A : Option Addr) (l : List FieldD) (c : Nat), v = .slice A l.length c ∧ l.length ≤ c ∧ c ≤ maxLen ∧ FieldsIn W (fun b => b < W.heap.size) A l ∧
      ∃ ds rest : List (DataW H), (x.1 = .slice ds rest ∨ (x.1 = .nil ∧ ds = [])) ∧ ds.length = l.length ∧ ∀ (j : Nat) (f : FieldD), l[j]? = some f → ∃ d, ds[j]? = some d ∧ ∃ d1 d2, d = .agg [.lit (.string f.1), d1, d2] := by
  obtain ⟨A, l, c, hv, h1, h2, hc, hd⟩ := open_list (T := 34) (e := 81) Tryz.underlying34 csField (by omega) fieldVs (fun (f : FieldD) (d : DataW H) => ∃ d1 d2, d = .agg [.lit (.string f.1), d1, d2]) (fun _ => rfl) (fun n cs x h => by
    obtain ⟨y0, y1, y2, n, rfl, hl, h0, h1, h2⟩ := trod_struct3 Tryz.underlying81 h
    rw [csField] at hl
    dsimp only at h0 h1 h2
    rw [cs9] at h0
    rw [cs3] at h1
    rw [cs4] at h2
    obtain ⟨s, hc0, rfl, _⟩ := DataW.trod_string Tryz.underlying9 h0
    obtain ⟨z1, hc1, _, _⟩ := DataW.trod_int Tryz.underlying3 h1
    obtain ⟨b2, hc2, _⟩ := DataW.trod_bool Tryz.underlying4 h2
    exact ⟨(s.data.toList, z1, b2), three3 hl (tk1 hc0) (tk1 hc1) (tk1 hc2), _, _, rfl⟩) hf
  exact ⟨A, l, c, hv, h1, h2, hc, hd⟩
/-- A slice of rooms. -/
theorem open_rooms7 {base : Nat} {v : Value} {d : DataW H} {p : List MemPlace} (hv : Value.okWide Tryz.prog W .any base 22 v) (h : DataW.Trod enc Tryz.prog W 0 (fun _ => true) true 22 v d p) :
    ∃ (A : Option Addr) (l : List RoomD) (c : Nat), v = .slice A l.length c ∧ l.length ≤ c ∧ c ≤ maxLen ∧ RoomsIn W (fun b => b < W.heap.size) A l := by
  obtain ⟨a0, len, cap, rfl⟩ := okWide_slice Tryz.underlying22 hv
  obtain ⟨fuel, hf⟩ := h
  obtain ⟨A, l, c, hv, h1, h2, hc, ds, rest, _, _, hd⟩ := open_list (T := 22) (e := 46) Tryz.underlying22 csRoom (by omega) (fun r : RoomD × Room5 => roomVs r.1 r.2) (fun r _ => RoomIn W (fun b => b < W.heap.size) r.1 r.2) (fun _ => rfl) (fun n cs x h => by
    obtain ⟨y0, y1, y2, y3, y4, n, rfl, hl, h0, h1, h2, h3, h4⟩ := trod_struct5 Tryz.underlying46 h
    rw [csRoom] at hl
    dsimp only at h0 h1 h2 h3 h4
    rw [cs9] at h0 h1
    rw [cs3] at h2
    rw [csStrs] at h3
    rw [csTimes] at h4
    obtain ⟨s0, hc0, _, _⟩ := DataW.trod_string Tryz.underlying9 h0
    obtain ⟨s1, hc1, _, _⟩ := DataW.trod_string Tryz.underlying9 h1
    obtain ⟨z2, hc2, _, _⟩ := DataW.trod_int Tryz.underlying3 h2
    obtain ⟨v3, hc3⟩ := tk1' (cs := cs) (k := 3) (by omega)
    obtain ⟨v4, hc4⟩ := tk1' (cs := cs) (k := 4) (by omega)
    rw [hc3] at h3
    rw [hc4] at h4
    obtain ⟨A1, l1, c1, rfl, q1, q2, q3⟩ := open_strs7 h3
    obtain ⟨A2, l2, c2, rfl, r1, r2, r3⟩ := open_times7 h4
    refine ⟨((s0.data.toList, s1.data.toList, z2, l1, l2), ⟨A1, c1, A2, c2⟩), five5 hl (tk1 hc0) (tk1 hc1) (tk1 hc2) (tk1 hc3) (tk1 hc4), q3, r3, q1, ?_, r1, ?_⟩
    · unfold maxLen at q2; show c1 ≤ _; omega
    · unfold maxLen at r2; show c2 ≤ _; omega) (v := .slice a0 len cap) (x := (d, p)) hf
  refine ⟨A, l.map (·.1), c, by rw [List.length_map]; exact hv, by rw [List.length_map]; exact h1, h2, ?_⟩
  rcases hc with h | ⟨b, off, hA, hb, hc⟩
  · exact .inl (by rw [h]; rfl)
  · refine .inr ⟨b, off, hA, hb, fun j r hj => ?_⟩
    rw [List.getElem?_map] at hj
    obtain ⟨y, hy, rfl⟩ := Option.map_eq_some_iff.1 hj
    obtain ⟨d', _, hok⟩ := hd j y hy
    exact ⟨y.2, hok, hc j y hy⟩
theorem bulk_all : ∀ (ds : List (DataW H)) (j : Nat) (d : DataW H), ds[j]? = some d → Rows.uptoBulk d ≤ Rows.uptoBulkAll ds
  | [], j, d, h => by simp at h
  | a :: r, 0, d, h => by
    simp at h
    subst h
    simp only [Rows.uptoBulkAll]
    omega
  | a :: r, j + 1, d, h => by
    have := bulk_all r j d (by simpa using h)
    simp only [Rows.uptoBulkAll]
    omega
theorem bulk_pos (d : DataW H) : 1 ≤ Rows.uptoBulk d := by
  cases d with
  | lit l => cases l <;> simp [Rows.uptoBulk]
  | _ => simp [Rows.uptoBulk]
theorem bulk_len : ∀ ds : List (DataW H), ds.length ≤ Rows.uptoBulkAll ds
  | [] => by simp
  | d :: r => by
    have := bulk_len r
    have := bulk_pos d
    simp only [Rows.uptoBulkAll, List.length_cons]
    omega
/-- A slice of records; their texts, and how many they are, against the bulk. -/
theorem open_recs7 {base : Nat} {v : Value} {d : DataW H} {p : List MemPlace} (hv : Value.okWide Tryz.prog W .any base 33 v) (h : DataW.Trod enc Tryz.prog W 0 (fun _ => true) true 33 v d p) :
    ∃ (A : Option Addr) (l : List RecD) (c : Nat), v = .slice A l.length c ∧ l.length ≤ c ∧ c ≤ maxLen ∧ RecsIn W (fun b => b < W.heap.size) A l ∧ l.length ≤ Rows.uptoBulk d ∧ ∀ r ∈ l, ∀ f ∈ r.2, f.1.length ≤ Rows.uptoBulk d := by
  obtain ⟨a0, len, cap, rfl⟩ := okWide_slice Tryz.underlying33 hv
  obtain ⟨fuel, hf⟩ := h
  obtain ⟨A, l, c, hv, h1, h2, hc, ds, rest, hds, hdl, hd⟩ := open_list (T := 33) (e := 36) Tryz.underlying33 csRec (by omega) (fun r : RecD × (Option Addr × Nat) => [Value.int .i64 r.1.1, Value.slice r.2.1 r.1.2.length r.2.2])
    (fun r (d : DataW H) => (FieldsIn W (fun b => b < W.heap.size) r.2.1 r.1.2 ∧ r.1.2.length ≤ r.2.2 ∧ r.2.2 ≤ 9223372036854775807) ∧ ∀ f ∈ r.1.2, f.1.length ≤ Rows.uptoBulk d) (fun _ => rfl) (fun n cs x h => by
    obtain ⟨y0, y1, n, rfl, hl, h0, h1⟩ := trod_struct2 Tryz.underlying36 h
    rw [csRec] at hl
    dsimp only at h0 h1
    rw [cs3] at h0
    rw [csFields] at h1
    obtain ⟨z0, hc0, _, _⟩ := DataW.trod_int Tryz.underlying3 h0
    obtain ⟨v1, hc1⟩ := tk1' (cs := cs) (k := 1) (by omega)
    rw [hc1] at h1
    obtain ⟨A1, l1, c1, rfl, q1, q2, q3, ds, rest, hds, hdl, hd⟩ := open_fields7 h1
    refine ⟨((z0, l1), (A1, c1)), two2 hl (tk1 hc0) (tk1 hc1), ⟨q3, q1, ?_⟩, fun f hf => ?_⟩
    · unfold maxLen at q2; show c1 ≤ _; omega
    · obtain ⟨j, hj, rfl⟩ := List.mem_iff_getElem.1 hf
      obtain ⟨d, hj', d1, d2, rfl⟩ := hd j _ (List.getElem?_eq_getElem hj)
      have h3 := bulk_all _ j _ hj'
      rcases hds with e | ⟨_, rfl⟩
      · rw [e]
        simp only [Rows.uptoBulk, Rows.uptoBulkAll] at h3 ⊢
        omega
      · simp at hj') (v := .slice a0 len cap) (x := (d, p)) hf
  refine ⟨A, l.map (·.1), c, by rw [List.length_map]; exact hv, by rw [List.length_map]; exact h1, h2, ?_, ?_, ?_⟩
  · rcases hc with h | ⟨b, off, hA, hb, hc⟩
    · exact .inl (by rw [h]; rfl)
    · refine .inr ⟨b, off, hA, hb, fun j r hj => ?_⟩
      rw [List.getElem?_map] at hj
      obtain ⟨y, hy, rfl⟩ := Option.map_eq_some_iff.1 hj
      obtain ⟨d', _, ⟨g1, g2, g3⟩, _⟩ := hd j y hy
      exact ⟨y.2.1, y.2.2, g1, g2, g3, hc j y hy 0 _ rfl, hc j y hy 1 _ rfl⟩
  · rw [List.length_map, ← hdl]
    have := bulk_len ds
    rcases hds with e | ⟨_, rfl⟩
    · dsimp only at e
      rw [e]
      simp only [Rows.uptoBulk]
      omega
    · simp
  · intro r hr f hf
    obtain ⟨y, hy, rfl⟩ := List.mem_map.1 hr
    obtain ⟨j, hj, rfl⟩ := List.mem_iff_getElem.1 hy
    obtain ⟨d', hj', _, hb⟩ := hd j _ (List.getElem?_eq_getElem hj)
    have h3 := bulk_all _ j _ hj'
    have h4 := hb f hf
    rcases hds with e | ⟨_, rfl⟩
    · dsimp only at e
      rw [e]
      simp only [Rows.uptoBulk]
      omega
    · simp at hj'
end
end Go.Proofs.YteckefolakjafaaGreatDoor

set_option linter.unusedVariables false
set_option maxRecDepth 100000
namespace Go.Proofs.YteckefolakjafaaGreatDoor
open Go Go.Proofs Go.ChangeShapes Go.WideShapes Go.ChangeAt Go.RowKit

theorem open_grid7 {H : Type} {enc : TypeId × Value → H} {W : World} {base : Nat} {v : Value} {d : DataW H} {p : List MemPlace} (hv : Value.okWide Tryz.prog W .any base 24 v) (h : DataW.Trod enc Tryz.prog W 0 (fun _ => true) true 24 v d p) :
    ∃ a b x z : Int, v = .agg #[.int .i64 a, .int .i64 b, .int .i64 x, .int .i64 z] := by
  obtain ⟨v0, v1, v2, v3, y0, y1, y2, y3, n, rfl, rfl, rfl, t0, t1, t2, t3⟩ := Joins.open_agg4 Tryz.underlying24 (by kernel_rfl) (by kernel_rfl) hv h
  obtain ⟨x0, e0, rfl, w0⟩ := DataW.trod_int Tryz.underlying3 t0
  obtain ⟨x1, e1, rfl, w1⟩ := DataW.trod_int Tryz.underlying3 t1
  obtain ⟨x2, e2, rfl, w2⟩ := DataW.trod_int Tryz.underlying3 t2
  obtain ⟨x3, e3, rfl, w3⟩ := DataW.trod_int Tryz.underlying3 t3
  simp at e0 e1 e2 e3
  subst e0 e1 e2 e3
  exact ⟨x0, x1, x2, x3, rfl⟩
end Go.Proofs.YteckefolakjafaaGreatDoor

