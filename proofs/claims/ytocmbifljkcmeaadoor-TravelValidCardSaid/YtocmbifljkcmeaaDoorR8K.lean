/-
  What the walks of this stage import. No program beyond the types' facts.
-/
import Derived.Test.YtocmbifljkcmeaaDoorBD
import Derived.Test.YtocmbifljkcmeaaDoorBC
import Derived.Test.YtocmbifljkcmeaaDoorBB
import Derived.WalkKit
import Derived.Handy
import Derived.RegionTactic
import Derived.Deep.DeepCutAuto
import Derived.Deep.CutBlock
import Derived.Deep.RegionHeld3
import Derived.Deep.RegionLaw
import Derived.Deep.RegionWith
import Derived.Deep.QuietTactic
import Derived.Deep.AppendLies
import Derived.Maps.AppendAt
import Derived.OwnWalk
import Derived.Laws.OwnMore
import Derived.Laws.ResultCell
import Derived.BigQuiet
import Derived.StillTailTactics
import Derived.Shelf.Abstract
set_option linter.unusedVariables false
namespace Go.Proofs.YtocmbifljkcmeaaDoor
open Go Go.Proofs Go.RowKit Go.Lib
/-- A call that returns a value and turns nothing that was there. -/
def Says (v : Value) (w : World) (e : Ending) (w' : World) : Prop := e = .returned v ∧ Below w.heap.size w w'
theorem below_drewN' {B : Nat} {a w : World} (h : Below B a w) (q : Nat) : Below B a (w.drewN q) := S3.below_drewN h q
end Go.Proofs.YtocmbifljkcmeaaDoor
