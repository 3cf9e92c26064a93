/-
  The program's List: its walk. Conditions: the library's variables hold what its text lays; the string has fewer than 2^32 - 15 bytes.
  What Join makes of a list of codes, and that List reads it again. Mathematics alone. Conditions: as the lemmas state.
  The program's Join: its contract (joinM). Conditions: the library's variables hold what its text lays; the list of strings lies in memory.
  Rooms as data: what is asked of one and of a list; the text of their times and their records; numbers of seats. No program.
-/
import Derived.Test.YtnpfmoalgphkcaaGreatDoorVA16
import Derived.Test.YtnpfmoalgphkcaaGreatDoorVA12
import Derived.Test.YtnpfmoalgphkcaaGreatDoorVA06
import Derived.Deep.RegionHeld3
import Derived.Deep.DeepCutAuto
import Derived.Deep.QuietTactic
import Derived.BigQuiet
import Derived.Lib.Join
import Derived.Laws.Concat
set_option linter.unusedVariables false
namespace Go.Proofs.YtnpfmoalgphkcaaGreatDoor.S3
open Go Go.Proofs Go.RowKit Go.Lib
attribute [local go_sem] Oper.semAt_some

theorem Boxed.under {W W2 : World} {B : Nat} {t : TypeId} {v : Value} (h : Boxed W B t v) (hb : Below W.heap.size W W2) : Boxed W2 B t v := (hb.block _ h.lt).trans h
theorem keeps_below {W W2 : World} (hb : Below W.heap.size W W2) : KeepsOthers W W2 := ⟨hb.size, fun k o hk _ => (hb.block k (Array.getElem?_eq_some_iff.1 hk).1).trans hk⟩
/-- A round has gone on. -/
theorem LInv.step {N : Nat} {w : World} {pre : List Str} {r : ByteArray} {W W2 w3 : World} {v v' : Value} {L L' : List Str} {x : Str} (h : LInv N w (pre, r) W) (hN : N ≤ w.heap.size) (hb : Below W.heap.size W W2) (hv : Boxed W (N + 2) 58 v)
    (hrow2 : StrRow W2 (N + 6) v L) (hg : W2.grownBy w3 v.ownBlock) (hown : StrRow w3 (N + 6) v' L') (hx : listGo (pre ++ [x]) [] = (L', 0)) (hl : L'.length ≤ 64) (B0 : Nat) :
    LInv N w (pre ++ [x], r) (w3.setCell ⟨N + 2, 0, none⟩ v') ∧ KeepsFrom B0 W (w3.setCell ⟨N + 2, 0, none⟩ v') := by
  have hs := h.below.size
  have hlt := hrow2.lt
  have hlt' := hown.lt
  have hne : ∀ B, B < N + 6 → some B ≠ v.ownBlock := fun B hB e => by have := hlt B e.symm; omega
  have hg2 := grownBy_setCell' w3 (N + 2) v'
  have hne2 : ∀ B, B ≠ N + 2 → some B ≠ some (N + 2) := fun B hB e => hB (by injection e)
  have up : ∀ {B : Nat} {t : TypeId} {u : Value}, Boxed W B t u → B < N + 6 → B ≠ N + 2 → Boxed (w3.setCell ⟨N + 2, 0, none⟩ v') B t u := fun hu h6 h2 => ((Boxed.under hu hb).kept hg (hne _ h6)).kept hg2 (hne2 _ h2)
  have hv3 : Boxed w3 (N + 2) 58 v := (Boxed.under hv hb).kept hg (hne _ (by omega))
  have hsz := h.size
  have hb3 : Below N w (w3.setCell ⟨N + 2, 0, none⟩ v') := ((h.below.trans (hb.mono (by omega))).grown hg (by have := hb.size; omega) (fun k hk => by have := hlt k hk; omega)).grown hg2 (by have := hb.size; have := hg.size; omega) (fun k e => by injection e; omega)
  refine ⟨⟨hb3, ?_, up h.r1 (by omega) (by omega), up h.r2 (by omega) (by omega), up h.v1 (by omega) (by omega), up h.v2 (by omega) (by omega), up h.v3 (by omega) (by omega), ⟨v', hv3.set v', ?_⟩, by rw [hx], by rw [hx]; exact hl⟩, ?_⟩
  · have := hb.size; have := hg.size; have := hg2.size; omega
  · rw [hx]
    exact World.ownsRow.kept hown hg2 (.inr fun e => by have := hlt' _ e; omega)
  · refine (((keeps_below hb).trans (KeepsOthers.of_grownBy hg fun j o ej hj => ?_)).trans (KeepsOthers.setCell _ _ _)).from _
    obtain ⟨c, hc⟩ := row_kind9 hrow2 j ej
    rw [hc] at hj
    cases hj
    rfl

theorem box_at {W : World} {n : Nat} (h : W.heap.size = n) (t : TypeId) (v : Value) : Boxed (W.alloc (.cells #[v] t)) n t v := by subst h; exact Boxed.new W t v
end Go.Proofs.YtnpfmoalgphkcaaGreatDoor.S3

set_option linter.unusedVariables false
namespace Go.Proofs.YtnpfmoalgphkcaaGreatDoor.S3
open Go Go.Proofs Go.RowKit Go.Lib

/-- Parts with semicolons between. -/
def semi : List Str → Str
  | [] => []
  | [p] => p
  | p :: q :: r => p ++ 59 :: semi (q :: r)
end Go.Proofs.YtnpfmoalgphkcaaGreatDoor.S3

set_option linter.unusedVariables false
namespace Go.Proofs.YtnpfmoalgphkcaaGreatDoor.S3
open Go Go.Proofs Go.RowKit Go.Lib

theorem semi_join : ∀ l : List Str, Lib.join l [59] = semi l
  | [] => rfl
  | [p] => by rw [Lib.join_one]; rfl
  | p :: q :: r => by
    have ih := semi_join (q :: r)
    rw [Lib.join_cons] at ih ⊢
    show p ++ Lib.joinTail [59] (q :: r) = p ++ 59 :: semi (q :: r)
    rw [← ih]
    simp [Lib.joinTail]
theorem ba_app (a b : Str) : ba a ++ ba b = ba (a ++ b) := by
  apply ByteArray.ext
  simp [ba]
theorem ba_size (a : Str) : (ba a).size = a.length := by
  show a.toArray.size = _
  simp
theorem StrsIn.rest {w : World} {P : Nat → Prop} {A : Option Addr} {l : List Str} (h : StrsIn w P A l) (n c : Nat) (hlc : l.length ≤ c) : StrsIn w P (if c = n then A else A.map (·.add n)) (l.drop n) := by
  by_cases hn : n < l.length
  · rw [if_neg (by omega)]
    rcases h with h | ⟨b, off, rfl, hP, hc⟩
    · subst h; simp at hn
    · refine .inr ⟨b, off + n, by rw [Option.map_some, Addr.add_lit], hP, fun j s hj => ?_⟩
      rw [List.getElem?_drop] at hj
      rw [show off + n + j = off + (n + j) by omega]
      exact hc _ _ hj
  · exact .inl (List.drop_of_length_le (by omega))

end Go.Proofs.YtnpfmoalgphkcaaGreatDoor.S3

set_option linter.unusedVariables false
namespace Go.Proofs.YtnpfmoalgphkcaaGreatDoor
open Go Go.Proofs Go.RowKit Go.Lib

def fitT (d s b m n : Int) (t : TimeD) : Int := fitsM d s b m n t.1 t.2.1 t.2.2.1 t.2.2.2
def unfitB (d s b m n : Int) (t : TimeD) : Bool := decide (fitT d s b m n t ≠ 0)
def codesR (l : List RoomD) : List Str := l.map (·.1)
/-! ### ascending -/
/-! ### texts -/
def timeS (d s b m n : Int) (t : TimeD) : Str := (textT d s b m n t.1 t.2.1 t.2.2.1 t.2.2.2).1
def timesS (d s b m n : Int) (l : List TimeD) : Str := S3.semi (l.map (timeS d s b m n))
/-! ### numbers of at most so many digits -/
def numD (D : Nat) (s : Str) : Nat := if s ≠ [] ∧ s.length ≤ D ∧ s.all S3.dg = true ∧ s.head? ≠ some 48 then S3.numN s else 0
end Go.Proofs.YtnpfmoalgphkcaaGreatDoor

