/-
  Lists of problems; that the reference's SameProblems finds equal lists equal. Conditions: both lists are the call's own rows.
-/
import Derived.Test.YtcpkefjijinhiaaDoorReaderNext
set_option linter.unusedVariables false
namespace Go.Proofs.YtcpkefjijinhiaaDoor
open Go Go.Proofs Go.RowKit Go.Lib

/-- A problem: its line, its column, its code (the file is 0). -/
structure Prob where
  line : Int
  col : Int
  code : Int
def probCells : List Prob → List Value
  | [] => []
  | p :: r => .int .i64 0 :: .int .i64 p.line :: .int .i64 p.col :: .int .i64 p.code :: probCells r
theorem probCells_app : ∀ a b : List Prob, probCells (a ++ b) = probCells a ++ probCells b
  | [], _ => rfl
  | p :: a, b => by simp [probCells, probCells_app a b]
theorem probCells_len : ∀ a : List Prob, (probCells a).length = a.length * 4
  | [] => rfl
  | p :: a => by simp [probCells, probCells_len a]; omega
theorem probCells_at : ∀ (ps : List Prob) (i : Nat) (p : Prob), ps[i]? = some p →
    (probCells ps)[i * 4]? = some (.int .i64 0) ∧ (probCells ps)[i * 4 + 1]? = some (.int .i64 p.line) ∧ (probCells ps)[i * 4 + 2]? = some (.int .i64 p.col) ∧ (probCells ps)[i * 4 + 3]? = some (.int .i64 p.code)
  | [], i, p, h => by simp at h
  | q :: ps, 0, p, h => by simp at h; subst h; simp [probCells]
  | q :: ps, i + 1, p, h => by
    have ih := probCells_at ps i p (by simpa using h)
    simp only [probCells]
    rw [show (i + 1) * 4 = i * 4 + 1 + 1 + 1 + 1 by omega]
    simpa using ih
theorem infoProb : (Tryd.prog.info? 77).map (fun i => (i.zero, i.size, i.bytes)) = some (some (.agg #[.int .i64 0, .int .i64 0, .int .i64 0, .int .i64 0]), 4, 32) := by kernel_rfl
/-- A list of problems that the call owns. -/
def ProbRow (w : World) (B : Nat) (v : Value) (ps : List Prob) : Prop := w.ownsRow B 77 4 v ps.length (probCells ps)
theorem ProbRow.cell {w : World} {B : Nat} {v : Value} {ps : List Prob} (h : ProbRow w B v ps) {i : Nat} {p : Prob} (hx : ps[i]? = some p) :
    ∃ g cap, v = .slice (some ⟨g, 0, none⟩) ps.length cap ∧ w.cell? ⟨g, i * 4, none⟩ = some (.int .i64 0) ∧ w.cell? ⟨g, i * 4 + 1, none⟩ = some (.int .i64 p.line) ∧ w.cell? ⟨g, i * 4 + 2, none⟩ = some (.int .i64 p.col) ∧ w.cell? ⟨g, i * 4 + 3, none⟩ = some (.int .i64 p.code) := by
  obtain ⟨h1, h2, h3, h4⟩ := probCells_at ps i p hx
  rcases h.2 with ⟨_, h0⟩ | ⟨g, cap, cur, hv, hB, _⟩
  · have := (List.getElem?_eq_some_iff.1 hx).1
    omega
  · have k := fun j u hj => World.ownsRow.cells h (g := g) (by rw [hv]; rfl) j u hj
    have k' : ∀ j u, (probCells ps)[j]? = some u → w.cell? ⟨g, j, none⟩ = some u := fun j u hj => by
      have := k j u hj
      rwa [Addr.add_lit, Nat.zero_add] at this
    exact ⟨g, cap, hv, k' _ _ h1, k' _ _ h2, k' _ _ h3, k' _ _ h4⟩

set_option maxHeartbeats 1000000 in
theorem sameProblems_any (v v' : Value) (ps : List Prob) (B B' : Nat) (w : World) (hl : ps.length ≤ 1000000) (h : ProbRow w B v ps) (h' : ProbRow w B' v' ps) :
    Calls Tryd.prog 30 #[v, v'] w fun e w' => e = .returned (.bool true) ∧ ∃ q, w' = w.drewN q := by
  obtain ⟨A1, c1, rfl⟩ := row_slice h
  obtain ⟨A2, c2, rfl⟩ := row_slice h'
  go_enter Tryd.func30, Tryd.ntmps30
  go_wp2
  go_loopw [5] (fun i wr => ∃ k : Nat, i = .int .i64 (k : Int) ∧ k ≤ ps.length ∧ ∃ q, wr = w.drewN q) (fun i _ => ps.length - (RowKit.intOf i).toNat)
  case atStart => exact ⟨0, rfl, Nat.zero_le _, 0, rfl⟩
  case round =>
    obtain ⟨k, rfl, hk, q, rfl⟩ := hrel
    by_cases hlt : k < ps.length
    · have hltz : (k : Int) < (ps.length : Int) := by omega
      obtain ⟨p, hp⟩ : ∃ p, ps[k]? = some p := ⟨_, List.getElem?_eq_getElem hlt⟩
      obtain ⟨g, cap', hv, a0, a1, a2, a3⟩ := h.cell hp
      injection hv with hA _ hcp
      subst hA hcp
      obtain ⟨g', cap', hv, b0, b1, b2, b3⟩ := h'.cell hp
      injection hv with hA _ hcp
      subst hA hcp
      obtain ⟨pl, pc, pe⟩ := p
      dsimp only at a0 a1 a2 a3 b0 b1 b2 b3
      clear hp h h'
      go_wp2
      go_quiet (fail)
      go_wp2
      go_roundw
      case rel => exact ⟨k + 1, by go_num, by omega, q + nq, rfl⟩
      case measure => simp [RowKit.intOf]; omega
    · have hltz : ¬ (k : Int) < (ps.length : Int) := by omega
      go_wp2
      go_ret
      exact ⟨rfl, q, rfl⟩
end Go.Proofs.YtcpkefjijinhiaaDoor
