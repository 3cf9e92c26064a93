/-
  Lists of records; that the reference's Same finds equal lists equal. Conditions: both lists are the call's own rows.
-/
import Derived.Test.YtcpkefjijinhiaaDoorProbs
set_option linter.unusedVariables false
namespace Go.Proofs.YtcpkefjijinhiaaDoor
open Go Go.Proofs Go.RowKit Go.Lib

/-- A field: its text, its column, whether it is quoted. -/
structure Fld where
  text : Str
  col : Int
  quoted : Bool
def fldCells : List Fld → List Value
  | [] => []
  | f :: r => strV f.text :: .int .i64 f.col :: .bool f.quoted :: fldCells r
theorem fldCells_app : ∀ a b : List Fld, fldCells (a ++ b) = fldCells a ++ fldCells b
  | [], _ => rfl
  | p :: a, b => by simp [fldCells, fldCells_app a b]
theorem fldCells_len : ∀ a : List Fld, (fldCells a).length = a.length * 3
  | [] => rfl
  | p :: a => by simp [fldCells, fldCells_len a]; omega
theorem fldCells_at : ∀ (fs : List Fld) (i : Nat) (f : Fld), fs[i]? = some f →
    (fldCells fs)[i * 3]? = some (strV f.text) ∧ (fldCells fs)[i * 3 + 1]? = some (.int .i64 f.col) ∧ (fldCells fs)[i * 3 + 2]? = some (.bool f.quoted)
  | [], i, f, h => by simp at h
  | q :: fs, 0, f, h => by simp at h; subst h; simp [fldCells]
  | q :: fs, i + 1, f, h => by
    have ih := fldCells_at fs i f (by simpa using h)
    simp only [fldCells]
    rw [show (i + 1) * 3 = i * 3 + 1 + 1 + 1 by omega]
    simpa using ih
theorem infoFld : (Tryd.prog.info? 50).map (fun i => (i.zero, i.size, i.bytes)) = some (some (.agg #[.string ⟨#[]⟩, .int .i64 0, .bool false]), 3, 32) := by kernel_rfl
theorem infoRec : (Tryd.prog.info? 48).map (fun i => (i.zero, i.size, i.bytes)) = some (some (.agg #[.int .i64 0, .slice none 0 0]), 2, 32) := by kernel_rfl
/-- A list of fields that the call owns. -/
def FldRow (w : World) (B : Nat) (v : Value) (fs : List Fld) : Prop := w.ownsRow B 50 3 v fs.length (fldCells fs)
theorem FldRow.cell {w : World} {B : Nat} {v : Value} {fs : List Fld} (h : FldRow w B v fs) {i : Nat} {f : Fld} (hx : fs[i]? = some f) :
    ∃ g cap, v = .slice (some ⟨g, 0, none⟩) fs.length cap ∧ w.cell? ⟨g, i * 3, none⟩ = some (strV f.text) ∧ w.cell? ⟨g, i * 3 + 1, none⟩ = some (.int .i64 f.col) ∧ w.cell? ⟨g, i * 3 + 2, none⟩ = some (.bool f.quoted) := by
  obtain ⟨h1, h2, h3⟩ := fldCells_at fs i f hx
  rcases h.2 with ⟨_, h0⟩ | ⟨g, cap, cur, hv, hB, _⟩
  · have := (List.getElem?_eq_some_iff.1 hx).1
    omega
  · have k' : ∀ j u, (fldCells fs)[j]? = some u → w.cell? ⟨g, j, none⟩ = some u := fun j u hj => by
      have := World.ownsRow.cells h (g := g) (by rw [hv]; rfl) j u hj
      rwa [Addr.add_lit, Nat.zero_add] at this
    exact ⟨g, cap, hv, k' _ _ h1, k' _ _ h2, k' _ _ h3⟩

/-- A record: its line, its fields. -/
structure Rec where
  line : Int
  fields : List Fld
def recCells : List (Int × Value) → List Value
  | [] => []
  | p :: r => .int .i64 p.1 :: p.2 :: recCells r
theorem recCells_app : ∀ a b : List (Int × Value), recCells (a ++ b) = recCells a ++ recCells b
  | [], _ => rfl
  | p :: a, b => by simp [recCells, recCells_app a b]
theorem recCells_len : ∀ a : List (Int × Value), (recCells a).length = a.length * 2
  | [] => rfl
  | p :: a => by simp [recCells, recCells_len a]; omega
theorem recCells_at : ∀ (ps : List (Int × Value)) (i : Nat) (p : Int × Value), ps[i]? = some p → (recCells ps)[i * 2]? = some (.int .i64 p.1) ∧ (recCells ps)[i * 2 + 1]? = some p.2
  | [], i, p, h => by simp at h
  | q :: ps, 0, p, h => by simp at h; subst h; simp [recCells]
  | q :: ps, i + 1, p, h => by
    have ih := recCells_at ps i p (by simpa using h)
    simp only [recCells]
    rw [show (i + 1) * 2 = i * 2 + 1 + 1 by omega]
    simpa using ih
/-- A list of records that the call owns, with their lists of fields. -/
def RecRow (w : World) (B : Nat) (v : Value) (rs : List Rec) : Prop :=
  ∃ ps : List (Int × Value), ps.length = rs.length ∧ w.ownsRow B 48 2 v ps.length (recCells ps) ∧ ∀ (i : Nat) (p : Int × Value) (r : Rec), ps[i]? = some p → rs[i]? = some r → p.1 = r.line ∧ FldRow w B p.2 r.fields
theorem RecRow.cell {w : World} {B : Nat} {v : Value} {rs : List Rec} (h : RecRow w B v rs) {i : Nat} {r : Rec} (hx : rs[i]? = some r) :
    ∃ g cap A c, v = .slice (some ⟨g, 0, none⟩) rs.length cap ∧ w.cell? ⟨g, i * 2, none⟩ = some (.int .i64 r.line) ∧ w.cell? ⟨g, i * 2 + 1, none⟩ = some (.slice A r.fields.length c) ∧ FldRow w B (.slice A r.fields.length c) r.fields := by
  obtain ⟨ps, hl, ho, hr⟩ := h
  have hi : i < ps.length := by have := (List.getElem?_eq_some_iff.1 hx).1; omega
  obtain ⟨h1, h2⟩ := recCells_at ps i _ (List.getElem?_eq_getElem hi)
  obtain ⟨e1, hf⟩ := hr i _ r (List.getElem?_eq_getElem hi) hx
  obtain ⟨A, c, hv'⟩ := row_slice hf
  rw [← hl]
  have ho' := ho
  rcases ho.2 with ⟨_, h0⟩ | ⟨g, cap, cur, hv, hB, _⟩
  · omega
  · have k' : ∀ j u, (recCells ps)[j]? = some u → w.cell? ⟨g, j, none⟩ = some u := fun j u hj => by
      have := World.ownsRow.cells ho' (g := g) (by rw [hv]; rfl) j u hj
      rwa [Addr.add_lit, Nat.zero_add] at this
    refine ⟨g, cap, A, c, hv, by rw [← e1]; exact k' _ _ h1, by rw [← hv']; exact k' _ _ h2, by rw [← hv']; exact hf⟩
theorem RecRow.slice {w : World} {B : Nat} {v : Value} {rs : List Rec} (h : RecRow w B v rs) : ∃ A c, v = .slice A rs.length c := by
  obtain ⟨ps, hl, ho, _⟩ := h
  obtain ⟨A, c, hv⟩ := row_slice ho
  exact ⟨A, c, by rw [hv, hl]⟩
end Go.Proofs.YtcpkefjijinhiaaDoor
