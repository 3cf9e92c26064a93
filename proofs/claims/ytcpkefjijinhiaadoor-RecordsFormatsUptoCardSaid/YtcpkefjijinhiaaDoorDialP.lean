/-
  What the statements' dialect does, said as a hypothesis. No conditions.
-/
import Derived.Test.YtcpkefjijinhiaaDoorNextD
import Derived.Test.YtcpkefjijinhiaaDoorRefValid
set_option linter.unusedVariables false
namespace Go.Proofs.YtcpkefjijinhiaaDoor
open Go Go.Proofs Go.RowKit Go.Lib

def DialP (g c : Nat) (A : Option Addr) (L : List Int) (w : World) (e : Ending) (w' : World) : Prop :=
  (∃ D Q : UInt8, e = .returned (dialV D Q) ∧ validB D Q = true) ∧ (∃ k', DiceAt w' g A L c k') ∧ Played w.heap.size g w w'
/-- What dialect does, for all dice. -/
def DialAll : Prop := ∀ (g c k : Nat) (A : Option Addr) (L : List Int) (w : World), DiceAt w g A L c k → Calls Tryd.prog 16 #[.pointer (some ⟨g, 0, none⟩)] w (DialP g c A L w)
end Go.Proofs.YtcpkefjijinhiaaDoor
