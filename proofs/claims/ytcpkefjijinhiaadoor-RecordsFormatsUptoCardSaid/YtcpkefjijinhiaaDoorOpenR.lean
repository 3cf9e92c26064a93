/-
  A slice of slices of strings that came in: what it holds, and how long it is against the bulk. Conditions: as the lemmas state.
-/
import Derived.Test.YtcpkefjijinhiaaDoorLaw
import Derived.Test.YtcpkefjijinhiaaDoorFormM
import Derived.Test.YtcpkefjijinhiaaDoorStrs
import Derived.Deep.Slices
set_option linter.unusedVariables false
set_option maxRecDepth 100000
namespace Go.Proofs.YtcpkefjijinhiaaDoor.W2
open Go Go.Proofs Go.ChangeShapes Go.WideShapes Go.ChangeAt Go.RowKit Go.Lib Go.Deep Go.Proofs.YtcpkefjijinhiaaDoor

theorem cells9' : Tryd.prog.cellsOf 9 = 1 := by kernel_rfl
theorem cells45 : Tryd.prog.cellsOf 45 = 1 := by kernel_rfl
instance : Inhabited (List Str × (Option Addr × Nat)) := ⟨([], (none, 0))⟩
section
variable {H : Type} {enc : TypeId × Value → H} {W : World}
/-- A slice of elements that read as said. -/
theorem open_list {T e : TypeId} {z : Nat} (ht : Tryd.prog.underlying T = some (.slice e)) (hz : Tryd.prog.cellsOf e = z) (hz0 : 0 < z) {α : Type} [Inhabited α] (cells : α → List Value) (Ok : α → DataW H → Prop) (hcl : ∀ a, (cells a).length = z)
    (each : ∀ n cs x, DataW.trod enc Tryd.prog W 0 (fun _ => true) true n e cs = some x → ∃ a, cs = cells a ∧ Ok a x.1) {fuel : Nat} {v : Value} {x : DataW H × List MemPlace} (hf : DataW.trod enc Tryd.prog W 0 (fun _ => true) true fuel T [v] = some x) :
    ∃ (A : Option Addr) (l : List α) (c : Nat), v = .slice A l.length c ∧ l.length ≤ c ∧ c ≤ maxLen ∧
      (l = [] ∨ ∃ b off, A = some ⟨b, off, none⟩ ∧ b < W.heap.size ∧ ∀ (j : Nat) (a : α), l[j]? = some a → ∀ (i : Nat) (u : Value), (cells a)[i]? = some u → W.cell? ⟨b, off + j * z + i, none⟩ = some u) ∧
      ∃ ds rest : List (DataW H), (x.1 = .slice ds rest ∨ (x.1 = .nil ∧ ds = [])) ∧ ds.length = l.length ∧ ∀ (j : Nat) (a : α), l[j]? = some a → ∃ d, ds[j]? = some d ∧ Ok a d := by
  rcases open_slice ht hf with ⟨hcs, rfl⟩ | ⟨a, len, cap, m, n, D, Pl, hcs, _, hl, hm, hmm, rfl, hx⟩
  · simp at hcs
    subst hcs
    exact ⟨none, [], 0, rfl, Nat.le_refl _, by unfold maxLen; omega, .inl rfl, [], [], .inr ⟨rfl, rfl⟩, rfl, fun j a h => by simp at h⟩
  · simp at hcs
    subst hcs
    have hmc : m = cap := by simpa using hmm
    rw [hz] at hx
    obtain ⟨F, hF⟩ := choose_lt (α := α) (p := fun i y => W.cells? 0 (a.add (i * z)) z = some (cells y) ∧ Ok y (D i)) (n := m) (fun i hi => by
      obtain ⟨cs', h1, h2⟩ := hx i hi
      obtain ⟨y, rfl, h3⟩ := each _ _ _ h2
      exact ⟨y, h1, h3⟩)
    refine ⟨some a, (List.range len).map F, cap, by simp, by simpa using hl, hm, ?_, (List.range len).map D, _, .inl rfl, by simp, fun j y hj => ?_⟩
    · rcases Nat.eq_zero_or_pos len with h0 | h0
      · subst h0; exact .inl rfl
      · right
        have hc : ∀ i, i < m → ∀ k, k < z → W.cell? ((a.add (i * z)).add k) = (cells (F i))[k]? := fun i hi k hk => (World.cells?_some (hF i hi).1).2.2 k hk
        have h00 := hc 0 (by omega) 0 hz0
        rw [List.getElem?_eq_getElem (by rw [hcl]; exact hz0)] at h00
        obtain ⟨b, off, spot⟩ := a
        have hspot : spot = none := by simpa [Addr.add] using World.cell?_spot h00
        subst hspot
        have hadd : ∀ i k : Nat, ((⟨b, off, none⟩ : Addr).add i).add k = ⟨b, off + i + k, none⟩ := fun i k => by rw [Go.WideShapes.add_plain, Go.WideShapes.add_plain]
        rw [hadd] at h00
        refine ⟨b, off, rfl, World.block_lt_of_cell? W _ h00, fun j y hj i u hu => ?_⟩
        rw [List.getElem?_map] at hj
        obtain ⟨j', hj', rfl⟩ := Option.map_eq_some_iff.1 hj
        have hjl : j < len := by
          have := (List.getElem?_eq_some_iff.1 hj').1
          simpa using this
        rw [List.getElem?_range hjl] at hj'
        obtain rfl := Option.some.inj hj'
        have hi : i < z := by
          have := (List.getElem?_eq_some_iff.1 hu).1
          rw [hcl] at this
          exact this
        have := hc j (by omega) i hi
        rw [hadd] at this
        rw [this]
        exact hu
    · rw [List.getElem?_map] at hj
      obtain ⟨j', hj', rfl⟩ := Option.map_eq_some_iff.1 hj
      have hjl : j < len := by
        have := (List.getElem?_eq_some_iff.1 hj').1
        simpa using this
      rw [List.getElem?_range hjl] at hj'
      obtain rfl := Option.some.inj hj'
      exact ⟨D j, by rw [List.getElem?_map, List.getElem?_range hjl]; rfl, (hF j (by omega)).2⟩
theorem bulk_all : ∀ (ds : List (DataW H)) (j : Nat) (d : DataW H), ds[j]? = some d → Rows.uptoBulk d ≤ Rows.uptoBulkAll ds
  | [], j, d, h => by simp at h
  | a :: r, 0, d, h => by
    simp at h
    subst h
    simp only [Rows.uptoBulkAll]
    omega
  | a :: r, j + 1, d, h => by
    have := bulk_all r j d (by simpa using h)
    simp only [Rows.uptoBulkAll]
    omega
theorem bulk_pos (d : DataW H) : 1 ≤ Rows.uptoBulk d := by
  cases d with
  | lit l => cases l <;> simp [Rows.uptoBulk]
  | _ => simp [Rows.uptoBulk]
theorem bulk_len : ∀ ds : List (DataW H), ds.length ≤ Rows.uptoBulkAll ds
  | [] => by simp
  | d :: r => by
    have := bulk_len r
    have := bulk_pos d
    simp only [Rows.uptoBulkAll, List.length_cons]
    omega
theorem wgt_bulk : ∀ (l : List Str), wgtRow l ≤ 3 * Rows.uptoBulkAll (l.map fun s => (DataW.lit (.string s) : DataW H)) + 1
  | [] => by simp [wgtRow]
  | s :: r => by
    have := wgt_bulk r
    simp only [wgtRow, wgtF, List.map_cons, Rows.uptoBulkAll, Rows.uptoBulk]
    omega
theorem wgts_bulk : ∀ (ls : List (List Str)) (ds : List (DataW H)), ds.length = ls.length → (∀ (j : Nat) l d, ls[j]? = some l → ds[j]? = some d → wgtRow l ≤ 3 * Rows.uptoBulk d) → wgtRows ls ≤ 3 * Rows.uptoBulkAll ds
  | [], ds, _, _ => by simp [wgtRows]
  | l :: r, [], h, _ => by simp at h
  | l :: r, d :: ds, h, hw => by
    have h1 := wgts_bulk r ds (by simpa using h) (fun j l' d' hl hd => hw (j + 1) l' d' (by simpa using hl) (by simpa using hd))
    have h0 := hw 0 l d rfl rfl
    simp only [wgtRows, Rows.uptoBulkAll]
    omega
/-- A slice of strings, and what it weighs. -/
theorem open_strs2 {fuel : Nat} {v : Value} {x : DataW H × List MemPlace} (hf : DataW.trod enc Tryd.prog W 0 (fun _ => true) true fuel 45 [v] = some x) :
    ∃ (A : Option Addr) (l : List Str) (c : Nat), v = .slice A l.length c ∧ l.length ≤ c ∧ c ≤ maxLen ∧ StrsIn W (fun b => b < W.heap.size) A l ∧ wgtRow l ≤ 3 * Rows.uptoBulk x.1 ∧ ∀ s ∈ l, s.length ≤ Rows.uptoBulk x.1 := by
  obtain ⟨A, l, c, hv, h1, h2, hc, ds, rest, hds, hdl, hd⟩ := open_list (T := 45) (e := 9) Tryd.underlying45 cells9' (by omega) (fun s : Str => [strV s]) (fun s (d : DataW H) => d = .lit (.string s)) (fun _ => rfl) (fun n cs x h => by
    obtain ⟨s, rfl, rfl, _⟩ := DataW.trod_string Tryd.underlying9 h
    exact ⟨s.data.toList, by unfold strV; rfl, rfl⟩) hf
  have hdm : ds = l.map fun s => (DataW.lit (.string s) : DataW H) := by
    apply List.ext_getElem?
    intro j
    rw [List.getElem?_map]
    by_cases hj : j < l.length
    · obtain ⟨d, h3, rfl⟩ := hd j _ (List.getElem?_eq_getElem hj)
      rw [h3, List.getElem?_eq_getElem hj]
      rfl
    · rw [List.getElem?_eq_none (by omega), List.getElem?_eq_none (by omega)]
      rfl
  have hw := wgt_bulk (H := H) l
  rw [← hdm] at hw
  refine ⟨A, l, c, hv, h1, h2, ?_, ?_, fun s hs => ?_⟩
  · rcases hc with h | ⟨b, off, hA, hb, hc⟩
    · exact .inl h
    · refine .inr ⟨b, off, hA, hb, fun j s hj => ?_⟩
      have h := hc j s hj 0 _ rfl
      rw [show off + j * 1 + 0 = off + j by omega] at h
      exact h
  · rcases hds with e | ⟨e, rfl⟩
    · rw [e]
      simp only [Rows.uptoBulk]
      omega
    · rw [e]
      simp only [Rows.uptoBulk, Rows.uptoBulkAll] at hw ⊢
      omega
  · obtain ⟨j, hj, rfl⟩ := List.mem_iff_getElem.1 hs
    obtain ⟨d, hj', rfl⟩ := hd j _ (List.getElem?_eq_getElem hj)
    have h3 := bulk_all _ j _ hj'
    rcases hds with e | ⟨_, rfl⟩
    · rw [e]
      simp only [Rows.uptoBulk] at h3 ⊢
      omega
    · simp at hj'
/-- A slice of slices of strings. -/
theorem open_rows2 {base : Nat} {v : Value} {d : DataW H} {p : List MemPlace} (hv : Value.okWide Tryd.prog W .any base 37 v) (h : DataW.Trod enc Tryd.prog W 0 (fun _ => true) true 37 v d p) :
    ∃ (A : Option Addr) (ls : List (List Str)) (c : Nat), v = .slice A ls.length c ∧ RowsIn W (fun b => b < W.heap.size) A ls ∧ ls.length ≤ Rows.uptoBulk d ∧ wgtRows ls ≤ 3 * Rows.uptoBulk d ∧ ∀ l ∈ ls, ∀ s ∈ l, s.length ≤ Rows.uptoBulk d := by
  obtain ⟨a0, len, cap, rfl⟩ := okWide_slice Tryd.underlying37 hv
  obtain ⟨fuel, hf⟩ := h
  obtain ⟨A, l, c, hv, h1, h2, hc, ds, rest, hds, hdl, hd⟩ := open_list (T := 37) (e := 45) Tryd.underlying37 cells45 (by omega) (fun r : List Str × (Option Addr × Nat) => [Value.slice r.2.1 r.1.length r.2.2])
    (fun r (d : DataW H) => (StrsIn W (fun b => b < W.heap.size) r.2.1 r.1 ∧ r.1.length ≤ r.2.2 ∧ r.2.2 ≤ 9223372036854775807) ∧ wgtRow r.1 ≤ 3 * Rows.uptoBulk d ∧ ∀ s ∈ r.1, s.length ≤ Rows.uptoBulk d) (fun _ => rfl) (fun n cs x h => by
    have hl : cs.length = 1 := by
      rcases open_slice Tryd.underlying45 h with ⟨rfl, _⟩ | ⟨a, len, cap, m, k, D, Pl, rfl, _⟩ <;> rfl
    match cs, hl with
    | [v0], _ =>
      obtain ⟨A', l', c', rfl, g1, g2, g3, g4, g5⟩ := open_strs2 h
      refine ⟨(l', (A', c')), rfl, ⟨g3, g1, ?_⟩, g4, g5⟩
      unfold maxLen at g2
      show c' ≤ _
      omega) (v := .slice a0 len cap) (x := (d, p)) hf
  have hlen : l.length ≤ Rows.uptoBulkAll ds := by rw [← hdl]; exact bulk_len ds
  have hwg : wgtRows (l.map (·.1)) ≤ 3 * Rows.uptoBulkAll ds := wgts_bulk _ ds (by rw [List.length_map]; exact hdl) (fun j l' d' hl hd' => by
    rw [List.getElem?_map] at hl
    obtain ⟨y, hy, rfl⟩ := Option.map_eq_some_iff.1 hl
    obtain ⟨d2, h3, _, h4, _⟩ := hd j y hy
    rw [h3] at hd'
    injection hd' with hd'
    subst hd'
    exact h4)
  have hbk : Rows.uptoBulkAll ds ≤ Rows.uptoBulk d := by
    rcases hds with e | ⟨_, rfl⟩
    · dsimp only at e
      rw [e]
      simp only [Rows.uptoBulk]
      omega
    · simp [Rows.uptoBulkAll]
  refine ⟨A, l.map (·.1), c, by rw [List.length_map]; exact hv, ?_, by rw [List.length_map]; omega, by omega, ?_⟩
  · rcases hc with h | ⟨b, off, hA, hb, hc⟩
    · exact .inl (by rw [h]; rfl)
    · refine .inr ⟨b, off, hA, hb, fun j r hj => ?_⟩
      rw [List.getElem?_map] at hj
      obtain ⟨y, hy, rfl⟩ := Option.map_eq_some_iff.1 hj
      obtain ⟨d', _, ⟨g1, g2, g3⟩, _⟩ := hd j y hy
      have h := hc j y hy 0 _ rfl
      rw [show off + j * 1 + 0 = off + j by omega] at h
      exact ⟨y.2.1, y.2.2, h, g2, g3, g1⟩
  · intro l' hl s hs
    obtain ⟨y, hy, rfl⟩ := List.mem_map.1 hl
    obtain ⟨j, hj, rfl⟩ := List.mem_iff_getElem.1 hy
    obtain ⟨d', hj', _, _, hb⟩ := hd j _ (List.getElem?_eq_getElem hj)
    have h3 := bulk_all _ j _ hj'
    have h4 := hb s hs
    omega
end
end Go.Proofs.YtcpkefjijinhiaaDoor.W2
