/-
  DERIVED. GIVEN WITH THE SEED: THE CARDS: each row of YtldnbneblpebiaaGreatDoorRows.lean that lists a variable, with what it lists TIED to the program's text (the seventh form; the later family's looks); each row that meets fmt, with fmt's text TOLD by the authors' own Lean function (tested against real Go, not proved from fmt's source: count such statements apart). THE CARD IS WHAT COUNTS. Prove the row's statement (the work); the ties are given (YtldnbneblpebiaaGreatDoorTie.lean); close each card by the builder's one call (the guide's Derived/Test/ToyasCard.lean, 'card_holds'). Laid BY PROGRAM, IN A SANDBOX (cutbox-door.mjs). By AI agents, Wed Nov 11 2026. No macro, syntax, notation, axiom, sorry.
-/
import Derived.Test.YtldnbneblpebiaaGreatDoorRows
import GoSem.ClaimSeven
namespace Go.Proofs.YtldnbneblpebiaaGreatDoor
namespace Rows

/-- THE TIED CARD OF 'timetablelaw03.CodesCompares'. -/
def codesComparesCard : Claim7 := { stood := { row := codesComparesRow, standIns := [], harness := (true, "9fb90139f2c395502e1ac467b744ae5ef955dbf29b722fe1feec27d366d09d34"), looks := true }, kinds := [], alts := [], laidByText := true, laidKinds := [.data, .data, .data, .data, .sentinel, .sentinel, .pinned], laidTests := true, laidLooks := .later }
def CodesComparesCardSaid : Prop := Claim7.holds Tryz.pinned (.plain (OpenSpec.ofChange codesComparesSpec)) codesComparesCard

/-- THE TIED CARD OF 'timetablelaw03.CodesOrders'. -/
def codesOrdersCard : Claim7 := { stood := { row := codesOrdersRow, standIns := [], harness := (true, "9fb90139f2c395502e1ac467b744ae5ef955dbf29b722fe1feec27d366d09d34"), looks := true }, kinds := [], alts := [], laidByText := true, laidKinds := [.data, .data, .data, .data, .sentinel, .sentinel, .pinned], laidTests := true, laidLooks := .later }
def CodesOrdersCardSaid : Prop := Claim7.holds Tryz.pinned (.plain (OpenSpec.ofChange codesOrdersSpec)) codesOrdersCard

/-- THE TIED CARD OF 'timetablelaw03.CodesLists'. -/
def codesListsCard : Claim7 := { stood := { row := codesListsRow, standIns := [], harness := (true, "9fb90139f2c395502e1ac467b744ae5ef955dbf29b722fe1feec27d366d09d34"), looks := true }, kinds := [], alts := [], laidByText := true, laidKinds := [.data, .data, .data, .data, .sentinel, .sentinel, .pinned], laidTests := true, laidLooks := .later }
def CodesListsCardSaid : Prop := Claim7.holds Tryz.pinned (.plain (OpenSpec.ofChange codesListsSpec)) codesListsCard

/-- THE TIED CARD OF 'timetablelaw03.CodesJoins'. -/
def codesJoinsCard : Claim7 := { stood := { row := codesJoinsRow, standIns := [], harness := (true, "9fb90139f2c395502e1ac467b744ae5ef955dbf29b722fe1feec27d366d09d34"), looks := true }, kinds := [], alts := [], laidByText := true, laidKinds := [.data, .data, .data, .data, .sentinel, .sentinel, .pinned], laidTests := true, laidLooks := .later }
def CodesJoinsCardSaid : Prop := Claim7.holds Tryz.pinned (.plain (OpenSpec.ofChange codesJoinsSpec)) codesJoinsCard

/-- THE TIED CARD OF 'timetablelaw03.CodesReturns'. -/
def codesReturnsCard : Claim7 := { stood := { row := codesReturnsRow, standIns := [], harness := (true, "9fb90139f2c395502e1ac467b744ae5ef955dbf29b722fe1feec27d366d09d34"), looks := true }, kinds := [], alts := [], laidByText := true, laidKinds := [.data, .data, .data, .data, .sentinel, .sentinel, .pinned], laidTests := true, laidLooks := .later }
def CodesReturnsCardSaid : Prop := Claim7.holds Tryz.pinned (.plain (OpenSpec.ofChange codesReturnsSpec)) codesReturnsCard

/-- THE TIED CARD OF 'timetablelaw03.CodesRanges'. -/
def codesRangesCard : Claim7 := { stood := { row := codesRangesRow, standIns := [], harness := (true, "9fb90139f2c395502e1ac467b744ae5ef955dbf29b722fe1feec27d366d09d34"), looks := true }, kinds := [], alts := [], laidByText := true, laidKinds := [.data, .data, .data, .data, .sentinel, .sentinel, .pinned], laidTests := true, laidLooks := .later }
def CodesRangesCardSaid : Prop := Claim7.holds Tryz.pinned (.plain (OpenSpec.ofChange codesRangesSpec)) codesRangesCard

/-- THE SECOND FORM's CARD OF 'timetablelaw03.CodesCompares'. -/
def codesComparesUptoCard : Claim7 := { stood := { row := codesComparesUptoRow, standIns := [], harness := (true, "9fb90139f2c395502e1ac467b744ae5ef955dbf29b722fe1feec27d366d09d34"), looks := true }, kinds := [], alts := [], laidByText := true, laidKinds := [.data, .data, .data, .data, .sentinel, .sentinel, .pinned], laidTests := true, laidLooks := .later }
def CodesComparesUptoCardSaid : Prop := Claim7.holds Tryz.pinned (.plain (OpenSpec.upto codesComparesSpec)) codesComparesUptoCard

/-- THE SECOND FORM's CARD OF 'timetablelaw03.CodesOrders'. -/
def codesOrdersUptoCard : Claim7 := { stood := { row := codesOrdersUptoRow, standIns := [], harness := (true, "9fb90139f2c395502e1ac467b744ae5ef955dbf29b722fe1feec27d366d09d34"), looks := true }, kinds := [], alts := [], laidByText := true, laidKinds := [.data, .data, .data, .data, .sentinel, .sentinel, .pinned], laidTests := true, laidLooks := .later }
def CodesOrdersUptoCardSaid : Prop := Claim7.holds Tryz.pinned (.plain (OpenSpec.upto codesOrdersSpec)) codesOrdersUptoCard

/-- THE SECOND FORM's CARD OF 'timetablelaw03.CodesLists'. -/
def codesListsUptoCard : Claim7 := { stood := { row := codesListsUptoRow, standIns := [], harness := (true, "9fb90139f2c395502e1ac467b744ae5ef955dbf29b722fe1feec27d366d09d34"), looks := true }, kinds := [], alts := [], laidByText := true, laidKinds := [.data, .data, .data, .data, .sentinel, .sentinel, .pinned], laidTests := true, laidLooks := .later }
def CodesListsUptoCardSaid : Prop := Claim7.holds Tryz.pinned (.plain (OpenSpec.upto codesListsSpec)) codesListsUptoCard

/-- THE SECOND FORM's CARD OF 'timetablelaw03.CodesJoins'. -/
def codesJoinsUptoCard : Claim7 := { stood := { row := codesJoinsUptoRow, standIns := [], harness := (true, "9fb90139f2c395502e1ac467b744ae5ef955dbf29b722fe1feec27d366d09d34"), looks := true }, kinds := [], alts := [], laidByText := true, laidKinds := [.data, .data, .data, .data, .sentinel, .sentinel, .pinned], laidTests := true, laidLooks := .later }
def CodesJoinsUptoCardSaid : Prop := Claim7.holds Tryz.pinned (.plain (OpenSpec.upto codesJoinsSpec)) codesJoinsUptoCard

/-- THE SECOND FORM's CARD OF 'timetablelaw03.CodesReturns'. -/
def codesReturnsUptoCard : Claim7 := { stood := { row := codesReturnsUptoRow, standIns := [], harness := (true, "9fb90139f2c395502e1ac467b744ae5ef955dbf29b722fe1feec27d366d09d34"), looks := true }, kinds := [], alts := [], laidByText := true, laidKinds := [.data, .data, .data, .data, .sentinel, .sentinel, .pinned], laidTests := true, laidLooks := .later }
def CodesReturnsUptoCardSaid : Prop := Claim7.holds Tryz.pinned (.plain (OpenSpec.upto codesReturnsSpec)) codesReturnsUptoCard

/-- THE SECOND FORM's CARD OF 'timetablelaw03.CodesRanges'. -/
def codesRangesUptoCard : Claim7 := { stood := { row := codesRangesUptoRow, standIns := [], harness := (true, "9fb90139f2c395502e1ac467b744ae5ef955dbf29b722fe1feec27d366d09d34"), looks := true }, kinds := [], alts := [], laidByText := true, laidKinds := [.data, .data, .data, .data, .sentinel, .sentinel, .pinned], laidTests := true, laidLooks := .later }
def CodesRangesUptoCardSaid : Prop := Claim7.holds Tryz.pinned (.plain (OpenSpec.upto codesRangesSpec)) codesRangesUptoCard
end Rows
end Go.Proofs.YtldnbneblpebiaaGreatDoor
