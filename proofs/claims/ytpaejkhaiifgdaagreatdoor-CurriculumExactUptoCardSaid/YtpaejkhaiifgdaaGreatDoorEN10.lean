/-
  Slices of structs that came in: what they hold. Conditions: as the lemmas state.
  Classes that came in. Conditions: as the lemmas state.
  Curricula that came in. Conditions: as the lemmas state.
  Rooms and records that came in: what they hold, and how long their texts are. Conditions: as the lemmas state.
-/
import Derived.Test.YtpaejkhaiifgdaaGreatDoorGN01
import Derived.Test.YtpaejkhaiifgdaaGreatDoorGN02
import Derived.Test.YtpaejkhaiifgdaaGreatDoorGN03
import Derived.Test.YtpaejkhaiifgdaaGreatDoorGN04
import Derived.Test.YtpaejkhaiifgdaaGreatDoorGN05
import Derived.Test.YtpaejkhaiifgdaaGreatDoorGN06
import Derived.Test.YtpaejkhaiifgdaaGreatDoorGN07
import Derived.Test.YtpaejkhaiifgdaaGreatDoorGN08
import Derived.Test.YtpaejkhaiifgdaaGreatDoorGN09
import Derived.Test.YtpaejkhaiifgdaaGreatDoorGN10
import Derived.Test.YtpaejkhaiifgdaaGreatDoorGN11
import Derived.Test.YtpaejkhaiifgdaaGreatDoorGN12
import Derived.Test.YtpaejkhaiifgdaaGreatDoorGN13
import Derived.Test.YtpaejkhaiifgdaaGreatDoorGN14
import Derived.Test.YtpaejkhaiifgdaaGreatDoorGN15
import Derived.Test.YtpaejkhaiifgdaaGreatDoorGN16
import Derived.Test.YtpaejkhaiifgdaaGreatDoorGN17
import Derived.Test.YtpaejkhaiifgdaaGreatDoorGN18
import Derived.Test.YtpaejkhaiifgdaaGreatDoorEN01
import Derived.Test.YtpaejkhaiifgdaaGreatDoorProg
import Derived.WalkKit
import Derived.WalkSpells
import Derived.WalkLawsBesides
import Derived.Lib.Hide
import Derived.Deep.QuietTactic
import Derived.BigQuiet
import Derived.Laws.Rows
import Derived.OwnWalk
import Derived.Lib.BufferWrite
import Derived.Lib.UnsafeStr
import Derived.Laws.IdiomStrings
import Derived.Laws.BytesArg
import Derived.Laws.BytesString
import Derived.Laws.OwnMore
import Derived.Lib.IndexLaws
import Derived.Lib.ItoaNum
import Derived.Lib.Atoi
import Derived.Lib.Bytealg
import Derived.Deep.Slices
import Derived.Lib.SmallJoins
import Derived.Test.YtpaejkhaiifgdaaGreatDoorRows
set_option linter.unusedVariables false
set_option maxRecDepth 100000
namespace Go.Proofs.YtpaejkhaiifgdaaGreatDoor
open Go Go.Proofs Go.ChangeShapes Go.WideShapes Go.ChangeAt Go.RowKit Go.Lib Go.Deep

section
variable {H : Type} {enc : TypeId × Value → H} {W : World}
/-- A slice of elements that read as said. -/
theorem open_list {T e : TypeId} {z : Nat} (ht : Tryz.prog.underlying T = some (.slice e)) (hz : Tryz.prog.cellsOf e = z) (hz0 : 0 < z) {α : Type} [Inhabited α] (cells : α → List Value) (Ok : α → DataW H → Prop) (hcl : ∀ a, (cells a).length = z)
    (each : ∀ n cs x, DataW.trod enc Tryz.prog W 0 (fun _ => true) true n e cs = some x → ∃ a, cs = cells a ∧ Ok a x.1) {fuel : Nat} {v : Value} {x : DataW H × List MemPlace} (hf : DataW.trod enc Tryz.prog W 0 (fun _ => true) true fuel T [v] = some x) :
    ∃ (A : Option Addr) (l : List α) (c : Nat), v = .slice A l.length c ∧ l.length ≤ c ∧ c ≤ maxLen ∧
      (l = [] ∨ ∃ b off, A = some ⟨b, off, none⟩ ∧ b < W.heap.size ∧ ∀ (j : Nat) (a : α), l[j]? = some a → ∀ (i : Nat) (u : Value), (cells a)[i]? = some u → W.cell? ⟨b, off + j * z + i, none⟩ = some u) ∧
      ∃ ds rest : List (DataW H), (x.1 = .slice ds rest ∨ (x.1 = .nil ∧ ds = [])) ∧ ds.length = l.length ∧ ∀ (j : Nat) (a : α), l[j]? = some a → ∃ d, ds[j]? = some d ∧ Ok a d := by
  rcases open_slice ht hf with ⟨hcs, rfl⟩ | ⟨a, len, cap, m, n, D, Pl, hcs, _, hl, hm, hmm, rfl, hx⟩
  · simp at hcs
    subst hcs
    exact ⟨none, [], 0, rfl, Nat.le_refl _, by unfold maxLen; omega, .inl rfl, [], [], .inr ⟨rfl, rfl⟩, rfl, fun j a h => by simp at h⟩
  · simp at hcs
    subst hcs
    have hmc : m = cap := by simpa using hmm
    rw [hz] at hx
    obtain ⟨F, hF⟩ := choose_lt (α := α) (p := fun i y => W.cells? 0 (a.add (i * z)) z = some (cells y) ∧ Ok y (D i)) (n := m) (fun i hi => by
      obtain ⟨cs', h1, h2⟩ := hx i hi
      obtain ⟨y, rfl, h3⟩ := each _ _ _ h2
      exact ⟨y, h1, h3⟩)
    refine ⟨some a, (List.range len).map F, cap, by simp, by simpa using hl, hm, ?_, (List.range len).map D, _, .inl rfl, by simp, fun j y hj => ?_⟩
    · rcases Nat.eq_zero_or_pos len with h0 | h0
      · subst h0; exact .inl rfl
      · right
        have hc : ∀ i, i < m → ∀ k, k < z → W.cell? ((a.add (i * z)).add k) = (cells (F i))[k]? := fun i hi k hk => (World.cells?_some (hF i hi).1).2.2 k hk
        have h00 := hc 0 (by omega) 0 hz0
        rw [List.getElem?_eq_getElem (by rw [hcl]; exact hz0)] at h00
        obtain ⟨b, off, spot⟩ := a
        have hspot : spot = none := by simpa [Addr.add] using World.cell?_spot h00
        subst hspot
        have hadd : ∀ i k : Nat, ((⟨b, off, none⟩ : Addr).add i).add k = ⟨b, off + i + k, none⟩ := fun i k => by rw [Go.WideShapes.add_plain, Go.WideShapes.add_plain]
        rw [hadd] at h00
        refine ⟨b, off, rfl, World.block_lt_of_cell? W _ h00, fun j y hj i u hu => ?_⟩
        rw [List.getElem?_map] at hj
        obtain ⟨j', hj', rfl⟩ := Option.map_eq_some_iff.1 hj
        have hjl : j < len := by
          have := (List.getElem?_eq_some_iff.1 hj').1
          simpa using this
        rw [List.getElem?_range hjl] at hj'
        obtain rfl := Option.some.inj hj'
        have hi : i < z := by
          have := (List.getElem?_eq_some_iff.1 hu).1
          rw [hcl] at this
          exact this
        have := hc j (by omega) i hi
        rw [hadd] at this
        rw [this]
        exact hu
    · rw [List.getElem?_map] at hj
      obtain ⟨j', hj', rfl⟩ := Option.map_eq_some_iff.1 hj
      have hjl : j < len := by
        have := (List.getElem?_eq_some_iff.1 hj').1
        simpa using this
      rw [List.getElem?_range hjl] at hj'
      obtain rfl := Option.some.inj hj'
      exact ⟨D j, by rw [List.getElem?_map, List.getElem?_range hjl]; rfl, (hF j (by omega)).2⟩
end
end Go.Proofs.YtpaejkhaiifgdaaGreatDoor

set_option linter.unusedVariables false
set_option maxRecDepth 100000
namespace Go.Proofs.YtpaejkhaiifgdaaGreatDoor.S10
open Go Go.Proofs Go.ChangeShapes Go.WideShapes Go.ChangeAt Go.RowKit Go.Lib Go.Deep Go.Proofs.YtpaejkhaiifgdaaGreatDoor

instance : Inhabited ClassD := ⟨⟨[], [], [], 0, [], 0, [], [], []⟩⟩
instance : Inhabited ClassA := ⟨⟨none, 0, none, 0, none, 0, none, 0⟩⟩
theorem cs3 : Tryz.prog.cellsOf 3 = 1 := by kernel_rfl
theorem cs9 : Tryz.prog.cellsOf 9 = 1 := by kernel_rfl
theorem csInts : Tryz.prog.cellsOf 47 = 1 := by kernel_rfl
theorem csStrs : Tryz.prog.cellsOf 39 = 1 := by kernel_rfl
theorem csStarts : Tryz.prog.cellsOf 63 = 1 := by kernel_rfl
theorem csStart : Tryz.prog.cellsOf 115 = 2 := by kernel_rfl
theorem csClass : Tryz.prog.cellsOf 65 = 9 := by kernel_rfl
theorem tk1 {cs : List Value} {k : Nat} {v : Value} (h : (cs.drop k).take 1 = [v]) : cs[k]? = some v := by
  have e : ((cs.drop k).take 1)[0]? = some v := by rw [h]; rfl
  rw [List.getElem?_take] at e
  simpa using e
theorem tk1' {cs : List Value} {k : Nat} (h : k < cs.length) : ∃ v, (cs.drop k).take 1 = [v] := by
  refine ⟨cs[k], ?_⟩
  rw [List.drop_eq_getElem_cons h]
  rfl
theorem i64_hi {z : Int} (h : (Lit.int IntKind.i64 z).wf = true) : z ≤ 9223372036854775807 := (bounds_i64 h).2
theorem two2 {cs : List Value} {a b : Value} (hl : cs.length = 2) (h0 : cs[0]? = some a) (h1 : cs[1]? = some b) : cs = [a, b] := by
  match cs, hl with
  | [c0, c1], _ => simp at h0 h1; simp [h0, h1]
theorem nine9 {cs : List Value} {a b c d e f g h i : Value} (hl : cs.length = 9) (h0 : cs[0]? = some a) (h1 : cs[1]? = some b) (h2 : cs[2]? = some c) (h3 : cs[3]? = some d) (h4 : cs[4]? = some e) (h5 : cs[5]? = some f) (h6 : cs[6]? = some g) (h7 : cs[7]? = some h) (h8 : cs[8]? = some i) : cs = [a, b, c, d, e, f, g, h, i] := by
  match cs, hl with
  | [c0, c1, c2, c3, c4, c5, c6, c7, c8], _ => simp at h0 h1 h2 h3 h4 h5 h6 h7 h8; simp [h0, h1, h2, h3, h4, h5, h6, h7, h8]
section
variable {H : Type} {enc : TypeId × Value → H} {W : World}
theorem trod_struct9 {t : TypeId} {f0 f1 f2 f3 f4 f5 f6 f7 f8 : Field} {fuel : Nat} {cs : List Value} {x : DataW H × List MemPlace} {spare : Nat → Bool} {held : Bool} {base : Nat} (ht : Tryz.prog.underlying t = some (.struct #[f0, f1, f2, f3, f4, f5, f6, f7, f8])) (h : DataW.trod enc Tryz.prog W base spare held fuel t cs = some x) :
    ∃ y0 y1 y2 y3 y4 y5 y6 y7 y8 n, cs.length = Tryz.prog.cellsOf t ∧ DataW.trod enc Tryz.prog W base spare held n f0.type ((cs.drop f0.offset).take (Tryz.prog.cellsOf f0.type)) = some y0 ∧
      DataW.trod enc Tryz.prog W base spare held n f1.type ((cs.drop f1.offset).take (Tryz.prog.cellsOf f1.type)) = some y1 ∧ DataW.trod enc Tryz.prog W base spare held n f2.type ((cs.drop f2.offset).take (Tryz.prog.cellsOf f2.type)) = some y2 ∧
      DataW.trod enc Tryz.prog W base spare held n f3.type ((cs.drop f3.offset).take (Tryz.prog.cellsOf f3.type)) = some y3 ∧ DataW.trod enc Tryz.prog W base spare held n f4.type ((cs.drop f4.offset).take (Tryz.prog.cellsOf f4.type)) = some y4 ∧
      DataW.trod enc Tryz.prog W base spare held n f5.type ((cs.drop f5.offset).take (Tryz.prog.cellsOf f5.type)) = some y5 ∧ DataW.trod enc Tryz.prog W base spare held n f6.type ((cs.drop f6.offset).take (Tryz.prog.cellsOf f6.type)) = some y6 ∧
      DataW.trod enc Tryz.prog W base spare held n f7.type ((cs.drop f7.offset).take (Tryz.prog.cellsOf f7.type)) = some y7 ∧ DataW.trod enc Tryz.prog W base spare held n f8.type ((cs.drop f8.offset).take (Tryz.prog.cellsOf f8.type)) = some y8 := by
  obtain ⟨xs, n, _, _, hl, hlen, hf⟩ := DataW.trod_struct ht h
  match xs, hlen with
  | [y0, y1, y2, y3, y4, y5, y6, y7, y8], _ => exact ⟨y0, y1, y2, y3, y4, y5, y6, y7, y8, n, hl, by simpa using hf 0 f0 rfl, by simpa using hf 1 f1 rfl, by simpa using hf 2 f2 rfl, by simpa using hf 3 f3 rfl, by simpa using hf 4 f4 rfl, by simpa using hf 5 f5 rfl, by simpa using hf 6 f6 rfl, by simpa using hf 7 f7 rfl, by simpa using hf 8 f8 rfl⟩
theorem open_strs {fuel : Nat} {v : Value} {x : DataW H × List MemPlace} (hf : DataW.trod enc Tryz.prog W 0 (fun _ => true) true fuel 39 [v] = some x) :
    ∃ (A : Option Addr) (l : List Str) (c : Nat), v = .slice A l.length c ∧ l.length ≤ c ∧ c ≤ maxLen ∧ S3.StrsIn W (fun b => b < W.heap.size) A l := by
  obtain ⟨A, l, c, hv, h1, h2, hc, _⟩ := open_list (T := 39) (e := 9) Tryz.underlying39 cs9 (by omega) (fun s : Str => [Value.string (ba s)]) (fun _ _ => True) (fun _ => rfl) (fun n cs x h => by
    obtain ⟨s, rfl, _, _⟩ := DataW.trod_string Tryz.underlying9 h
    exact ⟨s.data.toList, rfl, trivial⟩) hf
  refine ⟨A, l, c, hv, h1, h2, ?_⟩
  rcases hc with h | ⟨b, off, hA, hb, hc⟩
  · exact .inl h
  · refine .inr ⟨b, off, hA, hb, fun j s hj => ?_⟩
    have h := hc j s hj 0 _ rfl
    rw [show off + j * 1 + 0 = off + j by omega] at h
    exact h
theorem open_nums {fuel : Nat} {v : Value} {x : DataW H × List MemPlace} (hf : DataW.trod enc Tryz.prog W 0 (fun _ => true) true fuel 47 [v] = some x) :
    ∃ (A : Option Addr) (l : List Int) (c : Nat), v = .slice A l.length c ∧ l.length ≤ c ∧ c ≤ maxLen ∧ NumsIn W (fun b => b < W.heap.size) A l := by
  obtain ⟨A, l, c, hv, h1, h2, hc, _⟩ := open_list (T := 47) (e := 3) Tryz.underlying47 cs3 (by omega) (fun z : Int => [Value.int .i64 z]) (fun _ _ => True) (fun _ => rfl) (fun n cs x h => by
    obtain ⟨z, rfl, _, _⟩ := DataW.trod_int Tryz.underlying3 h
    exact ⟨z, rfl, trivial⟩) hf
  refine ⟨A, l, c, hv, h1, h2, ?_⟩
  rcases hc with h | ⟨b, off, hA, hb, hc⟩
  · exact .inl (by rw [h]; rfl)
  · refine .inr ⟨b, off, hA, hb, fun j s hj => ?_⟩
    unfold intVals at hj
    rw [List.getElem?_map] at hj
    obtain ⟨z, hz, rfl⟩ := Option.map_eq_some_iff.1 hj
    have h := hc j z hz 0 _ rfl
    rw [show off + j * 1 + 0 = off + j by omega] at h
    exact h
theorem open_starts {fuel : Nat} {v : Value} {x : DataW H × List MemPlace} (hf : DataW.trod enc Tryz.prog W 0 (fun _ => true) true fuel 63 [v] = some x) :
    ∃ (A : Option Addr) (l : List StartD) (c : Nat), v = .slice A l.length c ∧ l.length ≤ c ∧ c ≤ maxLen ∧ StartsIn W (fun b => b < W.heap.size) A l ∧ ∀ t ∈ l, t.2 ≤ 9223372036854775807 := by
  obtain ⟨A, l, c, hv, h1, h2, hc, ds, rest, _, _, hd⟩ := open_list (T := 63) (e := 115) Tryz.underlying63 csStart (by omega) startVs (fun t _ => t.2 ≤ 9223372036854775807) (fun _ => rfl) (fun n cs x h => by
    obtain ⟨y0, y1, n, rfl, hl, h0, h1⟩ := trod_struct2 Tryz.underlying115 h
    rw [csStart] at hl
    dsimp only at h0 h1
    rw [cs3] at h0 h1
    obtain ⟨z0, hc0, _, _⟩ := DataW.trod_int Tryz.underlying3 h0
    obtain ⟨z1, hc1, _, b1⟩ := DataW.trod_int Tryz.underlying3 h1
    exact ⟨(z0, z1), two2 hl (tk1 hc0) (tk1 hc1), i64_hi b1⟩) hf
  refine ⟨A, l, c, hv, h1, h2, ?_, fun t ht => ?_⟩
  · rcases hc with h | ⟨b, off, hA, hb, hc⟩
    · exact .inl (by rw [h]; rfl)
    · refine .inr ⟨b, off, hA, hb, fun i u hu => ?_⟩
      have hi : i < l.length * 2 := by have := (List.getElem?_eq_some_iff.1 hu).1; rwa [startVals_len] at this
      have hj : i / 2 < l.length := by omega
      have hr : i % 2 < (startVs l[i / 2]).length := by show i % 2 < 2; omega
      have hg := startVals_get l (i / 2) _ (List.getElem?_eq_getElem hj) (i % 2) _ (List.getElem?_eq_getElem hr)
      rw [show i / 2 * 2 + i % 2 = i by omega] at hg
      rw [hu] at hg
      injection hg with hg
      have h := hc (i / 2) _ (List.getElem?_eq_getElem hj) (i % 2) _ (List.getElem?_eq_getElem hr)
      rw [show off + i / 2 * 2 + i % 2 = off + i by omega, ← hg] at h
      exact h
  · obtain ⟨j, hj, rfl⟩ := List.mem_iff_getElem.1 ht
    obtain ⟨d, _, h⟩ := hd j _ (List.getElem?_eq_getElem hj)
    exact h
/-- A slice of classes. -/
theorem open_classes {base : Nat} {v : Value} {d : DataW H} {p : List MemPlace} (hv : Value.okWide Tryz.prog W .any base 24 v) (h : DataW.Trod enc Tryz.prog W 0 (fun _ => true) true 24 v d p) :
    ∃ (A : Option Addr) (l : List ClassD) (c : Nat), v = .slice A l.length c ∧ l.length ≤ c ∧ c ≤ maxLen ∧ ClassesIn W (fun b => b < W.heap.size) A l ∧ ∀ x ∈ l, ∀ t ∈ x.starts, t.2 ≤ 9223372036854775807 := by
  obtain ⟨a0, len, cap, rfl⟩ := okWide_slice Tryz.underlying24 hv
  obtain ⟨fuel, hf⟩ := h
  obtain ⟨A, l, c, hv, h1, h2, hc, ds, rest, _, _, hd⟩ := open_list (T := 24) (e := 65) Tryz.underlying24 csClass (by omega) (fun r : ClassD × ClassA => clsVs r.1 r.2) (fun r _ => ClassIn W (fun b => b < W.heap.size) r.1 r.2 ∧ ∀ t ∈ r.1.starts, t.2 ≤ 9223372036854775807) (fun _ => rfl) (fun n cs x h => by
    obtain ⟨y0, y1, y2, y3, y4, y5, y6, y7, y8, n, hl, h0, h1, h2, h3, h4, h5, h6, h7, h8⟩ := trod_struct9 Tryz.underlying65 h
    rw [csClass] at hl
    dsimp only at h0 h1 h2 h3 h4 h5 h6 h7 h8
    rw [cs9] at h0 h1 h2
    rw [cs3] at h3 h5
    rw [csInts] at h4
    rw [csStrs] at h6 h7
    rw [csStarts] at h8
    obtain ⟨s0, hc0, _, _⟩ := DataW.trod_string Tryz.underlying9 h0
    obtain ⟨s1, hc1, _, _⟩ := DataW.trod_string Tryz.underlying9 h1
    obtain ⟨s2, hc2, _, _⟩ := DataW.trod_string Tryz.underlying9 h2
    obtain ⟨z3, hc3, _, _⟩ := DataW.trod_int Tryz.underlying3 h3
    obtain ⟨z5, hc5, _, _⟩ := DataW.trod_int Tryz.underlying3 h5
    obtain ⟨v4, hc4⟩ := tk1' (cs := cs) (k := 4) (by omega)
    obtain ⟨v6, hc6⟩ := tk1' (cs := cs) (k := 6) (by omega)
    obtain ⟨v7, hc7⟩ := tk1' (cs := cs) (k := 7) (by omega)
    obtain ⟨v8, hc8⟩ := tk1' (cs := cs) (k := 8) (by omega)
    rw [hc4] at h4
    rw [hc6] at h6
    rw [hc7] at h7
    rw [hc8] at h8
    obtain ⟨A4, l4, c4, rfl, a1, a2, a3⟩ := open_nums h4
    obtain ⟨A6, l6, c6, rfl, b1, b2, b3⟩ := open_strs h6
    obtain ⟨A7, l7, c7, rfl, d1, d2, d3⟩ := open_strs h7
    obtain ⟨A8, l8, c8, rfl, e1, e2, e3, e4⟩ := open_starts h8
    unfold maxLen at a2 b2 d2 e2
    exact ⟨(⟨s0.data.toList, s1.data.toList, s2.data.toList, z3, l4, z5, l6, l7, l8⟩, ⟨A4, c4, A6, c6, A7, c7, A8, c8⟩), nine9 hl (tk1 hc0) (tk1 hc1) (tk1 hc2) (tk1 hc3) (tk1 hc4) (tk1 hc5) (tk1 hc6) (tk1 hc7) (tk1 hc8), ⟨a3, b3, d3, e3, a1, by show c4 ≤ _; omega, b1, by show c6 ≤ _; omega, d1, by show c7 ≤ _; omega, e1, by show c8 ≤ _; omega⟩, e4⟩) (v := .slice a0 len cap) (x := (d, p)) hf
  refine ⟨A, l.map (·.1), c, by rw [List.length_map]; exact hv, by rw [List.length_map]; exact h1, h2, ?_, ?_⟩
  · rcases hc with h | ⟨b, off, hA, hb, hc⟩
    · exact .inl (by rw [h]; rfl)
    · refine .inr ⟨b, off, hA, hb, fun j r hj => ?_⟩
      rw [List.getElem?_map] at hj
      obtain ⟨y, hy, rfl⟩ := Option.map_eq_some_iff.1 hj
      obtain ⟨d', _, hok⟩ := hd j y hy
      exact ⟨y.2, hok.1, hc j y hy⟩
  · intro x hx
    obtain ⟨y, hy, rfl⟩ := List.mem_map.1 hx
    obtain ⟨j, hj, rfl⟩ := List.mem_iff_getElem.1 hy
    obtain ⟨d', _, hok⟩ := hd j _ (List.getElem?_eq_getElem hj)
    exact hok.2
end
end Go.Proofs.YtpaejkhaiifgdaaGreatDoor.S10

set_option linter.unusedVariables false
set_option maxRecDepth 100000
namespace Go.Proofs.YtpaejkhaiifgdaaGreatDoor.S11
open Go Go.Proofs Go.ChangeShapes Go.WideShapes Go.ChangeAt Go.RowKit Go.Lib Go.Deep Go.Proofs.YtpaejkhaiifgdaaGreatDoor Go.Proofs.YtpaejkhaiifgdaaGreatDoor.S10

theorem csCurr : Tryz.prog.cellsOf 41 = 2 := by kernel_rfl
section
variable {H : Type} {enc : TypeId × Value → H} {W : World}
/-- A slice of curricula. -/
theorem open_currs {base : Nat} {v : Value} {d : DataW H} {p : List MemPlace} (hv : Value.okWide Tryz.prog W .any base 22 v) (h : DataW.Trod enc Tryz.prog W 0 (fun _ => true) true 22 v d p) :
    ∃ (A : Option Addr) (l : List CurrD) (c : Nat), v = .slice A l.length c ∧ l.length ≤ c ∧ c ≤ maxLen ∧ CurrsIn W (fun b => b < W.heap.size) A l := by
  obtain ⟨a0, len, cap, rfl⟩ := okWide_slice Tryz.underlying22 hv
  obtain ⟨fuel, hf⟩ := h
  obtain ⟨A, l, c, hv, h1, h2, hc, ds, rest, _, _, hd⟩ := open_list (T := 22) (e := 41) Tryz.underlying22 csCurr (by omega) (fun r : CurrD × CurrA => currVs r.1 r.2) (fun r _ => CurrIn W (fun b => b < W.heap.size) r.1 r.2) (fun _ => rfl) (fun n cs x h => by
    obtain ⟨y0, y1, n, rfl, hl, h0, h1⟩ := trod_struct2 Tryz.underlying41 h
    rw [csCurr] at hl
    dsimp only at h0 h1
    rw [S10.cs9] at h0
    rw [S10.csStrs] at h1
    obtain ⟨s0, hc0, _, _⟩ := DataW.trod_string Tryz.underlying9 h0
    obtain ⟨v1, hc1⟩ := tk1' (cs := cs) (k := 1) (by omega)
    rw [hc1] at h1
    obtain ⟨A2, l2, c2, rfl, r1, r2, r3⟩ := open_strs h1
    refine ⟨((s0.data.toList, l2), (A2, c2)), two2 hl (tk1 hc0) (tk1 hc1), r3, r1, ?_⟩
    unfold maxLen at r2; show c2 ≤ _; omega) (v := .slice a0 len cap) (x := (d, p)) hf
  refine ⟨A, l.map (·.1), c, by rw [List.length_map]; exact hv, by rw [List.length_map]; exact h1, h2, ?_⟩
  rcases hc with h | ⟨b, off, hA, hb, hc⟩
  · exact .inl (by rw [h]; rfl)
  · refine .inr ⟨b, off, hA, hb, fun j r hj => ?_⟩
    rw [List.getElem?_map] at hj
    obtain ⟨y, hy, rfl⟩ := Option.map_eq_some_iff.1 hj
    obtain ⟨d', _, hok⟩ := hd j y hy
    exact ⟨y.2, hok, hc j y hy⟩
end
end Go.Proofs.YtpaejkhaiifgdaaGreatDoor.S11

set_option linter.unusedVariables false
set_option maxRecDepth 100000
namespace Go.Proofs.YtpaejkhaiifgdaaGreatDoor
open Go Go.Proofs Go.ChangeShapes Go.WideShapes Go.ChangeAt Go.RowKit Go.Lib Go.Deep

theorem cs3 : Tryz.prog.cellsOf 3 = 1 := by kernel_rfl
theorem cs4 : Tryz.prog.cellsOf 4 = 1 := by kernel_rfl
theorem cs9 : Tryz.prog.cellsOf 9 = 1 := by kernel_rfl
theorem csStrs : Tryz.prog.cellsOf 39 = 1 := by kernel_rfl
theorem csFields : Tryz.prog.cellsOf 25 = 1 := by kernel_rfl
theorem csField : Tryz.prog.cellsOf 99 = 3 := by kernel_rfl
theorem csRec : Tryz.prog.cellsOf 27 = 2 := by kernel_rfl
instance : Inhabited Room5 := ⟨⟨none, 0, none, 0⟩⟩
section
variable {H : Type} {enc : TypeId × Value → H} {W : World}
theorem tk1 {cs : List Value} {k : Nat} {v : Value} (h : (cs.drop k).take 1 = [v]) : cs[k]? = some v := by
  have := congrArg (·[0]?) h
  simpa [List.getElem?_take, List.getElem?_drop] using this
theorem tk1' {cs : List Value} {k : Nat} (h : k < cs.length) : ∃ v, (cs.drop k).take 1 = [v] := by
  refine ⟨cs[k], ?_⟩
  rw [List.drop_eq_getElem_cons h]
  rfl
theorem i64_hi {z : Int} (h : (Lit.int IntKind.i64 z).wf = true) : z ≤ 9223372036854775807 := (bounds_i64 h).2
theorem three3 {cs : List Value} {a b c : Value} (hl : cs.length = 3) (h0 : cs[0]? = some a) (h1 : cs[1]? = some b) (h2 : cs[2]? = some c) : cs = [a, b, c] := by
  match cs, hl with
  | [c0, c1, c2], _ => simp at h0 h1 h2; simp [h0, h1, h2]
theorem two2 {cs : List Value} {a b : Value} (hl : cs.length = 2) (h0 : cs[0]? = some a) (h1 : cs[1]? = some b) : cs = [a, b] := by
  match cs, hl with
  | [c0, c1], _ => simp at h0 h1; simp [h0, h1]
/-- A slice of fields, and what their texts weigh. -/
theorem open_fields7 {fuel : Nat} {v : Value} {x : DataW H × List MemPlace} (hf : DataW.trod enc Tryz.prog W 0 (fun _ => true) true fuel 25 [v] = some x) :
    ∃ (A : Option Addr) (l : List FieldD) (c : Nat), v = .slice A l.length c ∧ l.length ≤ c ∧ c ≤ maxLen ∧ FieldsIn W (fun b => b < W.heap.size) A l ∧
      ∃ ds rest : List (DataW H), (x.1 = .slice ds rest ∨ (x.1 = .nil ∧ ds = [])) ∧ ds.length = l.length ∧ ∀ (j : Nat) (f : FieldD), l[j]? = some f → ∃ d, ds[j]? = some d ∧ ∃ d1 d2, d = .agg [.lit (.string f.1), d1, d2] := by
  obtain ⟨A, l, c, hv, h1, h2, hc, hd⟩ := open_list (T := 25) (e := 99) Tryz.underlying25 csField (by omega) fieldVs (fun (f : FieldD) (d : DataW H) => ∃ d1 d2, d = .agg [.lit (.string f.1), d1, d2]) (fun _ => rfl) (fun n cs x h => by
    obtain ⟨y0, y1, y2, n, rfl, hl, h0, h1, h2⟩ := trod_struct3 Tryz.underlying99 h
    rw [csField] at hl
    dsimp only at h0 h1 h2
    rw [cs9] at h0
    rw [cs3] at h1
    rw [cs4] at h2
    obtain ⟨s, hc0, rfl, _⟩ := DataW.trod_string Tryz.underlying9 h0
    obtain ⟨z1, hc1, _, _⟩ := DataW.trod_int Tryz.underlying3 h1
    obtain ⟨b2, hc2, _⟩ := DataW.trod_bool Tryz.underlying4 h2
    exact ⟨(s.data.toList, z1, b2), three3 hl (tk1 hc0) (tk1 hc1) (tk1 hc2), _, _, rfl⟩) hf
  exact ⟨A, l, c, hv, h1, h2, hc, hd⟩
theorem bulk_all : ∀ (ds : List (DataW H)) (j : Nat) (d : DataW H), ds[j]? = some d → Rows.uptoBulk d ≤ Rows.uptoBulkAll ds
  | [], j, d, h => by simp at h
  | a :: r, 0, d, h => by
    simp at h
    subst h
    simp only [Rows.uptoBulkAll]
    omega
  | a :: r, j + 1, d, h => by
    have := bulk_all r j d (by simpa using h)
    simp only [Rows.uptoBulkAll]
    omega
theorem bulk_pos (d : DataW H) : 1 ≤ Rows.uptoBulk d := by
  cases d with
  | lit l => cases l <;> simp [Rows.uptoBulk]
  | _ => simp [Rows.uptoBulk]
theorem bulk_len : ∀ ds : List (DataW H), ds.length ≤ Rows.uptoBulkAll ds
  | [] => by simp
  | d :: r => by
    have := bulk_len r
    have := bulk_pos d
    simp only [Rows.uptoBulkAll, List.length_cons]
    omega
/-- A slice of records; their texts, and how many they are, against the bulk. -/
theorem open_recs7 {base : Nat} {v : Value} {d : DataW H} {p : List MemPlace} (hv : Value.okWide Tryz.prog W .any base 23 v) (h : DataW.Trod enc Tryz.prog W 0 (fun _ => true) true 23 v d p) :
    ∃ (A : Option Addr) (l : List RecD) (c : Nat), v = .slice A l.length c ∧ l.length ≤ c ∧ c ≤ maxLen ∧ RecsIn W (fun b => b < W.heap.size) A l ∧ l.length ≤ Rows.uptoBulk d ∧ ∀ r ∈ l, ∀ f ∈ r.2, f.1.length ≤ Rows.uptoBulk d := by
  obtain ⟨a0, len, cap, rfl⟩ := okWide_slice Tryz.underlying23 hv
  obtain ⟨fuel, hf⟩ := h
  obtain ⟨A, l, c, hv, h1, h2, hc, ds, rest, hds, hdl, hd⟩ := open_list (T := 23) (e := 27) Tryz.underlying23 csRec (by omega) (fun r : RecD × (Option Addr × Nat) => [Value.int .i64 r.1.1, Value.slice r.2.1 r.1.2.length r.2.2])
    (fun r (d : DataW H) => (FieldsIn W (fun b => b < W.heap.size) r.2.1 r.1.2 ∧ r.1.2.length ≤ r.2.2 ∧ r.2.2 ≤ 9223372036854775807) ∧ ∀ f ∈ r.1.2, f.1.length ≤ Rows.uptoBulk d) (fun _ => rfl) (fun n cs x h => by
    obtain ⟨y0, y1, n, rfl, hl, h0, h1⟩ := trod_struct2 Tryz.underlying27 h
    rw [csRec] at hl
    dsimp only at h0 h1
    rw [cs3] at h0
    rw [csFields] at h1
    obtain ⟨z0, hc0, _, _⟩ := DataW.trod_int Tryz.underlying3 h0
    obtain ⟨v1, hc1⟩ := tk1' (cs := cs) (k := 1) (by omega)
    rw [hc1] at h1
    obtain ⟨A1, l1, c1, rfl, q1, q2, q3, ds, rest, hds, hdl, hd⟩ := open_fields7 h1
    refine ⟨((z0, l1), (A1, c1)), two2 hl (tk1 hc0) (tk1 hc1), ⟨q3, q1, ?_⟩, fun f hf => ?_⟩
    · unfold maxLen at q2; show c1 ≤ _; omega
    · obtain ⟨j, hj, rfl⟩ := List.mem_iff_getElem.1 hf
      obtain ⟨d, hj', d1, d2, rfl⟩ := hd j _ (List.getElem?_eq_getElem hj)
      have h3 := bulk_all _ j _ hj'
      rcases hds with e | ⟨_, rfl⟩
      · rw [e]
        simp only [Rows.uptoBulk, Rows.uptoBulkAll] at h3 ⊢
        omega
      · simp at hj') (v := .slice a0 len cap) (x := (d, p)) hf
  refine ⟨A, l.map (·.1), c, by rw [List.length_map]; exact hv, by rw [List.length_map]; exact h1, h2, ?_, ?_, ?_⟩
  · rcases hc with h | ⟨b, off, hA, hb, hc⟩
    · exact .inl (by rw [h]; rfl)
    · refine .inr ⟨b, off, hA, hb, fun j r hj => ?_⟩
      rw [List.getElem?_map] at hj
      obtain ⟨y, hy, rfl⟩ := Option.map_eq_some_iff.1 hj
      obtain ⟨d', _, ⟨g1, g2, g3⟩, _⟩ := hd j y hy
      exact ⟨y.2.1, y.2.2, g1, g2, g3, hc j y hy 0 _ rfl, hc j y hy 1 _ rfl⟩
  · rw [List.length_map, ← hdl]
    have := bulk_len ds
    rcases hds with e | ⟨_, rfl⟩
    · dsimp only at e
      rw [e]
      simp only [Rows.uptoBulk]
      omega
    · simp
  · intro r hr f hf
    obtain ⟨y, hy, rfl⟩ := List.mem_map.1 hr
    obtain ⟨j, hj, rfl⟩ := List.mem_iff_getElem.1 hy
    obtain ⟨d', hj', _, hb⟩ := hd j _ (List.getElem?_eq_getElem hj)
    have h3 := bulk_all _ j _ hj'
    have h4 := hb f hf
    rcases hds with e | ⟨_, rfl⟩
    · dsimp only at e
      rw [e]
      simp only [Rows.uptoBulk]
      omega
    · simp at hj'
end
end Go.Proofs.YtpaejkhaiifgdaaGreatDoor

