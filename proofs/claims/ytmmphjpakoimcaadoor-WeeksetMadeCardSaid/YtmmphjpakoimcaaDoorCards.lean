/-
  DERIVED. GIVEN WITH THE SEED: THE CARDS: each row of YtmmphjpakoimcaaDoorRows.lean that lists a variable, with what it lists TIED to the program's text (the seventh form; the later family's looks); each row that meets fmt, with fmt's text TOLD by the authors' own Lean function (tested against real Go, not proved from fmt's source: count such statements apart). THE CARD IS WHAT COUNTS. Prove the row's statement (the work); the ties are given (YtmmphjpakoimcaaDoorTie.lean); close each card by the builder's one call (the guide's Derived/Test/ToyasCard.lean, 'card_holds'). Laid BY PROGRAM, IN A SANDBOX (cutbox-door.mjs). By AI agents, Wed Nov 11 2026. No macro, syntax, notation, axiom, sorry.
-/
import Derived.Test.YtmmphjpakoimcaaDoorRows
import GoSem.ClaimSeven
namespace Go.Proofs.YtmmphjpakoimcaaDoor
namespace Rows

/-- THE TIED CARD OF 'timetablelaw05.WeeksetExact'. -/
def weeksetExactCard : Claim7 := { stood := { row := weeksetExactRow, standIns := [], harness := (true, "6cfe9feac0e37097b6143d3707a4523a236541a74357b86e46a8cce7214cf86d"), looks := true }, kinds := [], alts := [], laidByText := true, laidKinds := [.data, .data, .data, .data, .data, .sentinel, .sentinel, .data, .pinned], laidTests := true, laidLooks := .later }
def WeeksetExactCardSaid : Prop := Claim7.holds Tryd.pinned (.plain (OpenSpec.ofChange weeksetExactSpec)) weeksetExactCard

/-- THE TIED CARD OF 'timetablelaw05.WeeksetMade'. -/
def weeksetMadeCard : Claim7 := { stood := { row := weeksetMadeRow, standIns := [], harness := (true, "6cfe9feac0e37097b6143d3707a4523a236541a74357b86e46a8cce7214cf86d"), looks := true }, kinds := [], alts := [], laidByText := true, laidKinds := [.data, .data, .data, .data, .data, .sentinel, .sentinel, .data, .pinned], laidTests := true, laidLooks := .later }
def WeeksetMadeCardSaid : Prop := Claim7.holds Tryd.pinned (.plain (OpenSpec.ofChange weeksetMadeSpec)) weeksetMadeCard

/-- THE TIED CARD OF 'timetablelaw05.WeeksetReturns'. -/
def weeksetReturnsCard : Claim7 := { stood := { row := weeksetReturnsRow, standIns := [], harness := (true, "6cfe9feac0e37097b6143d3707a4523a236541a74357b86e46a8cce7214cf86d"), looks := true }, kinds := [], alts := [], laidByText := true, laidKinds := [.data, .data, .data, .data, .sentinel, .sentinel, .data, .pinned], laidTests := true, laidLooks := .later }
def WeeksetReturnsCardSaid : Prop := Claim7.holds Tryd.pinned (.plain (OpenSpec.ofChange weeksetReturnsSpec)) weeksetReturnsCard

/-- THE TIED CARD OF 'timetablelaw05.WeeksetHalves'. -/
def weeksetHalvesCard : Claim7 := { stood := { row := weeksetHalvesRow, standIns := [], harness := (true, "6cfe9feac0e37097b6143d3707a4523a236541a74357b86e46a8cce7214cf86d"), looks := true }, kinds := [], alts := [], laidByText := true, laidKinds := [.data, .data, .data, .data, .sentinel, .sentinel, .data, .pinned], laidTests := true, laidLooks := .later }
def WeeksetHalvesCardSaid : Prop := Claim7.holds Tryd.pinned (.plain (OpenSpec.ofChange weeksetHalvesSpec)) weeksetHalvesCard

/-- THE TIED CARD OF 'timetablelaw05.WeeksetUnites'. -/
def weeksetUnitesCard : Claim7 := { stood := { row := weeksetUnitesRow, standIns := [], harness := (true, "6cfe9feac0e37097b6143d3707a4523a236541a74357b86e46a8cce7214cf86d"), looks := true }, kinds := [], alts := [], laidByText := true, laidKinds := [.data, .data, .data, .data, .data, .sentinel, .sentinel, .data, .pinned], laidTests := true, laidLooks := .later }
def WeeksetUnitesCardSaid : Prop := Claim7.holds Tryd.pinned (.plain (OpenSpec.ofChange weeksetUnitesSpec)) weeksetUnitesCard

/-- THE SECOND FORM's CARD OF 'timetablelaw05.WeeksetExact'. -/
def weeksetExactUptoCard : Claim7 := { stood := { row := weeksetExactUptoRow, standIns := [], harness := (true, "6cfe9feac0e37097b6143d3707a4523a236541a74357b86e46a8cce7214cf86d"), looks := true }, kinds := [], alts := [], laidByText := true, laidKinds := [.data, .data, .data, .data, .data, .sentinel, .sentinel, .data, .pinned], laidTests := true, laidLooks := .later }
def WeeksetExactUptoCardSaid : Prop := Claim7.holds Tryd.pinned (.plain (OpenSpec.upto weeksetExactSpec)) weeksetExactUptoCard

/-- THE SECOND FORM's CARD OF 'timetablelaw05.WeeksetMade'. -/
def weeksetMadeUptoCard : Claim7 := { stood := { row := weeksetMadeUptoRow, standIns := [], harness := (true, "6cfe9feac0e37097b6143d3707a4523a236541a74357b86e46a8cce7214cf86d"), looks := true }, kinds := [], alts := [], laidByText := true, laidKinds := [.data, .data, .data, .data, .data, .sentinel, .sentinel, .data, .pinned], laidTests := true, laidLooks := .later }
def WeeksetMadeUptoCardSaid : Prop := Claim7.holds Tryd.pinned (.plain (OpenSpec.upto weeksetMadeSpec)) weeksetMadeUptoCard

/-- THE SECOND FORM's CARD OF 'timetablelaw05.WeeksetReturns'. -/
def weeksetReturnsUptoCard : Claim7 := { stood := { row := weeksetReturnsUptoRow, standIns := [], harness := (true, "6cfe9feac0e37097b6143d3707a4523a236541a74357b86e46a8cce7214cf86d"), looks := true }, kinds := [], alts := [], laidByText := true, laidKinds := [.data, .data, .data, .data, .sentinel, .sentinel, .data, .pinned], laidTests := true, laidLooks := .later }
def WeeksetReturnsUptoCardSaid : Prop := Claim7.holds Tryd.pinned (.plain (OpenSpec.upto weeksetReturnsSpec)) weeksetReturnsUptoCard

/-- THE SECOND FORM's CARD OF 'timetablelaw05.WeeksetHalves'. -/
def weeksetHalvesUptoCard : Claim7 := { stood := { row := weeksetHalvesUptoRow, standIns := [], harness := (true, "6cfe9feac0e37097b6143d3707a4523a236541a74357b86e46a8cce7214cf86d"), looks := true }, kinds := [], alts := [], laidByText := true, laidKinds := [.data, .data, .data, .data, .sentinel, .sentinel, .data, .pinned], laidTests := true, laidLooks := .later }
def WeeksetHalvesUptoCardSaid : Prop := Claim7.holds Tryd.pinned (.plain (OpenSpec.upto weeksetHalvesSpec)) weeksetHalvesUptoCard

/-- THE SECOND FORM's CARD OF 'timetablelaw05.WeeksetUnites'. -/
def weeksetUnitesUptoCard : Claim7 := { stood := { row := weeksetUnitesUptoRow, standIns := [], harness := (true, "6cfe9feac0e37097b6143d3707a4523a236541a74357b86e46a8cce7214cf86d"), looks := true }, kinds := [], alts := [], laidByText := true, laidKinds := [.data, .data, .data, .data, .data, .sentinel, .sentinel, .data, .pinned], laidTests := true, laidLooks := .later }
def WeeksetUnitesUptoCardSaid : Prop := Claim7.holds Tryd.pinned (.plain (OpenSpec.upto weeksetUnitesSpec)) weeksetUnitesUptoCard
end Rows
end Go.Proofs.YtmmphjpakoimcaaDoor
