/-
  The reference's field of a record, for every reader. Conditions: none.
-/
import Derived.Test.YtcpkefjijinhiaaDoorRQuot
import Derived.Test.YtcpkefjijinhiaaDoorRFieldAny
set_option linter.unusedVariables false
namespace Go.Proofs.YtcpkefjijinhiaaDoor
open Go Go.Proofs Go.RowKit Go.Lib

theorem fieldAll : FieldAll := fieldAll_of fun g a S D Q w h hD hQ hlt hx => rfield_quot g a S D Q w h hD hQ hlt hx
end Go.Proofs.YtcpkefjijinhiaaDoor
