/-
  Records out of lists of fields: Plain of the specification of records. Conditions: the lists lie in memory; no more than 1000000 of each, of at most 1000000 bytes each.
-/
import Derived.Test.YtocmbifljkcmeaaDoorR7P
import Derived.Test.YtocmbifljkcmeaaDoorBA
import Derived.Deep.RegionLaw
import Derived.Deep.AppendLies
import Derived.Maps.AppendAt
set_option linter.unusedVariables false
namespace Go.Proofs.YtocmbifljkcmeaaDoor
open Go Go.Proofs Go.RowKit Go.Lib

/-- The fields of a record that stands without quotes: each with the column at which it begins. -/
def colsM : Int → List Str → List FieldD
  | _, [] => []
  | c, s :: r => (s, c, false) :: colsM (c + ((s.length : Int) + 1)) r
def colAt : Int → List Str → Int
  | c, [] => c
  | c, s :: r => colAt (c + ((s.length : Int) + 1)) r
theorem colsM_app : ∀ (c : Int) (a b : List Str), colsM c (a ++ b) = colsM c a ++ colsM (colAt c a) b
  | c, [], b => rfl
  | c, s :: r, b => by simp [colsM, colAt, colsM_app _ r b]
theorem colAt_snoc : ∀ (c : Int) (a : List Str) (s : Str), colAt c (a ++ [s]) = colAt c a + ((s.length : Int) + 1)
  | c, [], s => rfl
  | c, t :: r, s => by simp [colAt, colAt_snoc _ r s]
theorem colsM_len : ∀ (c : Int) (a : List Str), (colsM c a).length = a.length
  | c, [] => rfl
  | c, s :: r => by simp [colsM, colsM_len _ r]
theorem colAt_range : ∀ (c : Int) (a : List Str), (∀ s ∈ a, s.length ≤ 1000000) → c ≤ colAt c a ∧ colAt c a ≤ c + a.length * 1000001
  | c, [], _ => by simp [colAt]
  | c, s :: r, h => by
    have h1 := h s (by simp)
    have h2 := colAt_range (c + ((s.length : Int) + 1)) r (fun t ht => h t (by simp [ht]))
    simp only [colAt, List.length_cons]
    omega
def plainM (l : List (List Str)) : List RecD := l.mapIdx fun i r => ((i : Int) + 1, colsM 1 r)
theorem plainM_len (l : List (List Str)) : (plainM l).length = l.length := by simp [plainM]
theorem plainM_take (l : List (List Str)) (i : Nat) (h : i < l.length) : plainM (l.take (i + 1)) = plainM (l.take i) ++ [((i : Int) + 1, colsM 1 l[i])] := by
  rw [List.take_succ_eq_append_getElem h]
  unfold plainM
  rw [List.mapIdx_append]
  congr 1
  simp [Nat.min_eq_left (Nat.le_of_lt h)]
theorem infoField : (Tryd.prog.info? 81).map (fun i => (i.zero, i.size, i.bytes)) = some (some (.agg #[.string ⟨#[]⟩, .int .i64 0, .bool false]), 3, 32) := by kernel_rfl
theorem infoRec : (Tryd.prog.info? 41).map (fun i => (i.zero, i.size, i.bytes)) = some (some (.agg #[.int .i64 0, .slice none 0 0]), 2, 32) := by kernel_rfl
def fieldVals (l : List FieldD) : List Value := l.flatMap fieldVs
theorem fieldVals_app (a b : List FieldD) : fieldVals (a ++ b) = fieldVals a ++ fieldVals b := by simp [fieldVals]
theorem fieldVals_get : ∀ (l : List FieldD) (j : Nat) (t : FieldD), l[j]? = some t → ∀ (i : Nat) (v : Value), (fieldVs t)[i]? = some v → (fieldVals l)[j * 3 + i]? = some v
  | [], j, t, h, _, _, _ => by simp at h
  | a :: r, 0, t, h, i, v, hv => by
    simp at h
    subst h
    have hi : i < 3 := (List.getElem?_eq_some_iff.1 hv).1
    unfold fieldVals
    rw [List.flatMap_cons, List.getElem?_append_left (by show _ < 3; omega)]
    simpa using hv
  | a :: r, j + 1, t, h, i, v, hv => by
    have := fieldVals_get r j t (by simpa using h) i v hv
    unfold fieldVals at this ⊢
    rw [List.flatMap_cons, List.getElem?_append_right (by show 3 ≤ _; omega)]
    show (List.flatMap fieldVs r)[(j + 1) * 3 + i - 3]? = _
    rw [show (j + 1) * 3 + i - 3 = j * 3 + i by omega]
    exact this
def FieldRow (w : World) (B : Nat) (v : Value) (l : List FieldD) : Prop := w.ownsRow B 81 3 v l.length (fieldVals l)
theorem FieldRow.fieldsIn {w : World} {B : Nat} {v : Value} {l : List FieldD} (h : FieldRow w B v l) : ∃ A c, v = .slice A l.length c ∧ l.length ≤ c ∧ c ≤ 9223372036854775807 ∧ FieldsIn w (fun b => v.ownBlock = some b) A l := by
  have h' := h
  rcases h.2 with ⟨hv, h0⟩ | ⟨g, cap, cur, hv, hB, hg, h1, h2, _⟩
  · have hl : l = [] := List.eq_nil_of_length_eq_zero h0
    subst hl
    exact ⟨none, 0, hv, Nat.le_refl _, by omega, .inl rfl⟩
  · refine ⟨_, cap, hv, h1, by unfold maxLen at h2; omega, .inr ⟨g, 0, rfl, by rw [hv]; rfl, fun j t hj i v' hv' => ?_⟩⟩
    have := World.ownsRow.cells h' (g := g) (by rw [hv]; rfl) (j * 3 + i) v' (fieldVals_get l j t hj i v' hv')
    rw [Addr.add_lit] at this
    rw [← Nat.add_assoc] at this
    exact this
abbrev RecA := RecD × (Option Addr × Nat)
def recVs (p : RecA) : List Value := [.int .i64 p.1.1, .slice p.2.1 p.1.2.length p.2.2]
def recVals (l : List RecA) : List Value := l.flatMap recVs
theorem recVals_app (a b : List RecA) : recVals (a ++ b) = recVals a ++ recVals b := by simp [recVals]
theorem recVals_len : ∀ l : List RecA, (recVals l).length = l.length * 2
  | [] => rfl
  | t :: r => by
    have := recVals_len r
    unfold recVals at this ⊢
    rw [List.flatMap_cons, List.length_append, this, List.length_cons]
    show 2 + _ = _
    omega
theorem recVals_get : ∀ (l : List RecA) (j : Nat) (t : RecA), l[j]? = some t → ∀ (i : Nat) (v : Value), (recVs t)[i]? = some v → (recVals l)[j * 2 + i]? = some v
  | [], j, t, h, _, _, _ => by simp at h
  | a :: r, 0, t, h, i, v, hv => by
    simp at h
    subst h
    have hi : i < 2 := (List.getElem?_eq_some_iff.1 hv).1
    unfold recVals
    rw [List.flatMap_cons, List.getElem?_append_left (by show _ < 2; omega)]
    simpa using hv
  | a :: r, j + 1, t, h, i, v, hv => by
    have := recVals_get r j t (by simpa using h) i v hv
    unfold recVals at this ⊢
    rw [List.flatMap_cons, List.getElem?_append_right (by show 2 ≤ _; omega)]
    show (List.flatMap recVs r)[(j + 1) * 2 + i - 2]? = _
    rw [show (j + 1) * 2 + i - 2 = j * 2 + i by omega]
    exact this
/-- A slice of records that the call owns; what they lead to lies in the call's own blocks, and not in the slice's. -/
def RecRow (w : World) (B : Nat) (v : Value) (l : List RecD) : Prop := ∃ L : List RecA, L.map (·.1) = l ∧ w.ownsRow B 41 2 v L.length (recVals L) ∧
  ∀ p ∈ L, FieldsIn w (fun b => B ≤ b ∧ b < w.heap.size ∧ v.ownBlock ≠ some b) p.2.1 p.1.2 ∧ p.1.2.length ≤ p.2.2 ∧ p.2.2 ≤ 9223372036854775807
theorem RecRow.recsIn {w : World} {B : Nat} {v : Value} {l : List RecD} (h : RecRow w B v l) : ∃ A c, v = .slice A l.length c ∧ l.length ≤ c ∧ c ≤ 9223372036854775807 ∧ RecsIn w (fun b => B ≤ b ∧ b < w.heap.size) A l := by
  obtain ⟨L, rfl, h, hL⟩ := h
  have h' := h
  have hn : (L.map (·.1)).length = L.length := List.length_map _
  rcases h.2 with ⟨hv, h0⟩ | ⟨g, cap, cur, hv, hB, hg, h1, h2, _⟩
  · have hl : L = [] := List.eq_nil_of_length_eq_zero h0
    subst hl
    exact ⟨none, 0, by rw [hv]; rfl, Nat.le_refl _, by omega, .inl rfl⟩
  · refine ⟨_, cap, by rw [hn]; exact hv, by rw [hn]; exact h1, by unfold maxLen at h2; omega, .inr ⟨g, 0, rfl, ⟨hB, (Array.getElem?_eq_some_iff.1 hg).1⟩, fun j r hj => ?_⟩⟩
    rw [List.getElem?_map] at hj
    obtain ⟨p, hp, rfl⟩ := Option.map_eq_some_iff.1 hj
    obtain ⟨f1, f2, f3⟩ := hL p (List.mem_of_getElem? hp)
    refine ⟨p.2.1, p.2.2, f1.mono (fun b hb => ⟨hb.1, hb.2.1⟩), f2, f3, ?_, ?_⟩
    · have := World.ownsRow.cells h' (g := g) (by rw [hv]; rfl) (j * 2 + 0) _ (recVals_get L j p hp 0 _ rfl)
      rw [Addr.add_lit] at this
      rw [← Nat.add_assoc] at this
      exact this
    · have := World.ownsRow.cells h' (g := g) (by rw [hv]; rfl) (j * 2 + 1) _ (recVals_get L j p hp 1 _ rfl)
      rw [Addr.add_lit] at this
      rw [← Nat.add_assoc] at this
      exact this
end Go.Proofs.YtocmbifljkcmeaaDoor
