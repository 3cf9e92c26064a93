/-
  Ways that a call owns; which of them connect the same buildings: connectsSame, slices.ContainsFunc; a list of buildings with one more: including of travel. Conditions: the rows are the call's own.
-/
import Derived.Test.YtocmbifljkcmeaaDoorR8L
import Derived.Test.YtocmbifljkcmeaaDoorR8F
import Derived.Maps.AppendAt
import Derived.ArgAppend
import Derived.Deep.DeepAppendRoom
set_option linter.unusedVariables false
namespace Go.Proofs.YtocmbifljkcmeaaDoor
open Go Go.Proofs Go.RowKit Go.Lib

/-! ### ways in memory -/
def wayVals (l : List WayD) : List Value := l.flatMap wayVs
theorem wayVals_app (a b : List WayD) : wayVals (a ++ b) = wayVals a ++ wayVals b := by simp [wayVals]
theorem wayVals_len : ∀ l : List WayD, (wayVals l).length = l.length * 3
  | [] => rfl
  | t :: r => by
    have := wayVals_len r
    unfold wayVals at this ⊢
    rw [List.flatMap_cons, List.length_append, this, List.length_cons]
    show 3 + _ = _
    omega
theorem wayVals_get : ∀ (l : List WayD) (j : Nat) (t : WayD), l[j]? = some t → ∀ (i : Nat) (v : Value), (wayVs t)[i]? = some v → (wayVals l)[j * 3 + i]? = some v
  | [], j, t, h, _, _, _ => by simp at h
  | a :: r, 0, t, h, i, v, hv => by
    simp at h
    subst h
    have hi : i < 3 := (List.getElem?_eq_some_iff.1 hv).1
    unfold wayVals
    rw [List.flatMap_cons, List.getElem?_append_left (by show _ < 3; omega)]
    simpa using hv
  | a :: r, j + 1, t, h, i, v, hv => by
    have := wayVals_get r j t (by simpa using h) i v hv
    unfold wayVals at this ⊢
    rw [List.flatMap_cons, List.getElem?_append_right (by show 3 ≤ _; omega)]
    show (List.flatMap wayVs r)[(j + 1) * 3 + i - 3]? = _
    rw [show (j + 1) * 3 + i - 3 = j * 3 + i by omega]
    exact this
theorem way_one (t : WayD) : ∀ u ∈ wayVs t, u.oneCell' = true := by
  intro u hu
  simp [wayVs] at hu
  rcases hu with rfl | rfl | rfl <;> rfl
/-- The slice at A holds the ways l, in a block with P. -/
def WaysIn (w : World) (P : Nat → Prop) (A : Option Addr) (l : List WayD) : Prop :=
  l = [] ∨ ∃ b off, A = some ⟨b, off, none⟩ ∧ P b ∧ ∀ (j : Nat) (t : WayD), l[j]? = some t → ∀ (i : Nat) (v : Value), (wayVs t)[i]? = some v → w.cell? ⟨b, off + j * 3 + i, none⟩ = some v
theorem WaysIn.kept {w w' : World} {P : Nat → Prop} {A : Option Addr} {l : List WayD} (h : WaysIn w P A l) (hk : ∀ b, P b → w'.heap[b]? = w.heap[b]?) : WaysIn w' P A l := by
  rcases h with h | ⟨b, off, hA, hP, hc⟩
  · exact .inl h
  · exact .inr ⟨b, off, hA, hP, fun j t hj i v hv => (World.cell?_of_block (w := w) (hk b hP)).trans (hc j t hj i v hv)⟩
theorem WaysIn.mono {w : World} {P P' : Nat → Prop} {A : Option Addr} {l : List WayD} (h : WaysIn w P A l) (hP : ∀ b, P b → P' b) : WaysIn w P' A l := by
  rcases h with h | ⟨b, off, hA, hb, hc⟩
  · exact .inl h
  · exact .inr ⟨b, off, hA, hP b hb, hc⟩
theorem WaysIn.below {w w' : World} {B : Nat} {A : Option Addr} {l : List WayD} (h : WaysIn w (fun b => b < B) A l) (hb : Below B w w') : WaysIn w' (fun b => b < B) A l := h.kept fun b hB => hb.block b hB
theorem WaysIn.at_ {w : World} {P : Nat → Prop} {A : Option Addr} {l : List WayD} (h : WaysIn w P A l) {k : Nat} (hk : k < l.length) :
    ∃ b off, A = some ⟨b, off, none⟩ ∧ P b ∧ w.cell? ⟨b, off + k * 3, none⟩ = some (.string (ba l[k].1)) ∧ w.cell? ⟨b, off + k * 3 + 1, none⟩ = some (.string (ba l[k].2.1)) ∧ w.cell? ⟨b, off + k * 3 + 2, none⟩ = some (.int .i64 l[k].2.2) := by
  rcases h with h | ⟨b, off, hA, hP, hc⟩
  · subst h; simp at hk
  · have hg := List.getElem?_eq_getElem hk
    exact ⟨b, off, hA, hP, hc k _ hg 0 _ rfl, hc k _ hg 1 _ rfl, hc k _ hg 2 _ rfl⟩
/-- A row of ways that the call owns. -/
def WayRow (w : World) (B : Nat) (T : TypeId) (v : Value) (l : List WayD) : Prop := w.ownsRow B T 3 v l.length (wayVals l)
theorem WayRow.waysIn {w : World} {B : Nat} {T : TypeId} {v : Value} {l : List WayD} (h : WayRow w B T v l) : ∃ A c, v = .slice A l.length c ∧ l.length ≤ c ∧ c ≤ 9223372036854775807 ∧ WaysIn w (fun b => B ≤ b ∧ b < w.heap.size) A l := by
  have h' := h
  rcases h.2 with ⟨hv, h0⟩ | ⟨g, cap, cur, hv, hB, hg, h1, h2, _⟩
  · have hl : l = [] := List.eq_nil_of_length_eq_zero h0
    subst hl
    exact ⟨none, 0, hv, Nat.le_refl _, by omega, .inl rfl⟩
  · refine ⟨_, cap, hv, h1, by unfold maxLen at h2; omega, .inr ⟨g, 0, rfl, ⟨hB, (Array.getElem?_eq_some_iff.1 hg).1⟩, fun j t hj i v' hv' => ?_⟩⟩
    have := World.ownsRow.cells h' (g := g) (by rw [hv]; rfl) (j * 3 + i) v' (wayVals_get l j t hj i v' hv')
    rw [Addr.add_lit] at this
    rw [← Nat.add_assoc] at this
    exact this
theorem infoWay : (Tryd.prog.info? 51).map (fun i => (i.zero, i.size, i.bytes)) = some (some (.agg #[.string ⟨#[]⟩, .string ⟨#[]⟩, .int .i64 0]), 3, 40) := by kernel_rfl
/-! ### rows that share a block -/
/-- A row whose slice is the beginning of another one's, which lies in the same block. -/
theorem row_begin {w w' : World} {B e z n n' : Nat} {v v' : Value} {xs ys : List Value} (h : w.ownsRow B e z v n xs) (h1 : w.ownsRow B e z v' n' (xs ++ ys)) (h2 : w'.ownsRow B e z v' n' (xs ++ ys)) (hz : 0 < z) (hv : v.ownBlock = v'.ownBlock) (hl : n ≤ n') : w'.ownsRow B e z v n xs := by
  refine ⟨h.1, ?_⟩
  rcases h.2 with h | ⟨g, cap, cur, rfl, hB, hg, hc1, hc2, hc3, hc4⟩
  · exact .inl h
  · right
    rcases h1.2 with ⟨rfl, _⟩ | ⟨g1, cap1, cur1, rfl, hB1, hg1, hd1, hd2, hd3, hd4⟩
    · simp [Value.ownBlock] at hv
    · simp only [Value.ownBlock, Option.some.injEq] at hv
      subst hv
      rw [hg] at hg1
      injection hg1 with hg1
      injection hg1 with hg1
      subst hg1
      have hcap : cap = cap1 := Nat.eq_of_mul_eq_mul_right hz (by omega)
      subst hcap
      rcases h2.2 with ⟨h, _⟩ | ⟨g2, cap2, cur2, h, hB2, hg2, he1, he2, he3, he4⟩
      · cases h
      · injection h with h _ h3
        injection h with h
        injection h with h
        subst h
        subst h3
        refine ⟨g, cap, cur2, rfl, hB, hg2, hc1, hc2, he3, ?_⟩
        have hle : n * z ≤ n' * z := Nat.mul_le_mul_right _ hl
        have := congrArg (List.take (n * z)) he4
        rw [List.take_take, Nat.min_eq_left hle] at this
        rw [this, List.take_append_of_le_length (by rw [h.1]; exact Nat.le_refl _)]
        exact List.take_of_length_le (by rw [h.1]; exact Nat.le_refl _)
/-- An append of which the run is known. -/
theorem wpList_append_known {P : Program} {w w2 : World} {ops : Array Oper} {rest : List Oper} {o : Oper} {a : Act} {Q : Exit → Act → World → Prop} (hgd : o.guard = none) (d s : Operand) (dT sT : TypeId)
    (ho : o.op = .call { callee := .builtin .append, args := #[d, s], argTypes := #[dT, sT] }) (vd vs v : Value) (hd : a.eval d = vd) (hs : a.eval s = vs)
    (hrun : (Builtin.append_ #[dT, sT] o.type #[vd, vs]).run P w = .ok v w2) (h : wpList P ops Q rest (a.put o.dst v) w2) : wpList P ops Q (o :: rest) a w := by
  refine wpList_plain hgd fun K hK => ?_
  unfold Oper.wp
  simp [execOp, ho, resolve, invoke, builtin, hd, hs, hrun, Result.andThen]
  exact hK _ _ h
end Go.Proofs.YtocmbifljkcmeaaDoor
