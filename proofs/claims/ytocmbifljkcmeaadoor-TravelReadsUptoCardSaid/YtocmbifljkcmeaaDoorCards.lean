/-
  DERIVED. GIVEN WITH THE SEED: THE CARDS: each row of YtocmbifljkcmeaaDoorRows.lean that lists a variable, with what it lists TIED to the program's text (the seventh form; the later family's looks); each row that meets fmt, with fmt's text TOLD by the authors' own Lean function (tested against real Go, not proved from fmt's source: count such statements apart). THE CARD IS WHAT COUNTS. Prove the row's statement (the work); the ties are given (YtocmbifljkcmeaaDoorTie.lean); close each card by the builder's one call (the guide's Derived/Test/ToyasCard.lean, 'card_holds'). Laid BY PROGRAM, IN A SANDBOX (cutbox-door.mjs). By AI agents, Wed Nov 11 2026. No macro, syntax, notation, axiom, sorry.
-/
import Derived.Test.YtocmbifljkcmeaaDoorRows
import GoSem.ClaimSeven
namespace Go.Proofs.YtocmbifljkcmeaaDoor
namespace Rows

/-- THE TIED CARD OF 'timetablelaw08.TravelValid'. -/
def travelValidCard : Claim7 := { stood := { row := travelValidRow, standIns := [], harness := (true, "c92af017e8b7a9e3f91bab573d7b32e7c8a9a0f754c709f6f2a944c969a35601"), looks := true }, kinds := [], alts := [], laidByText := true, laidKinds := [.data, .data, .data, .sentinel, .sentinel], laidTests := true, laidLooks := .later }
def TravelValidCardSaid : Prop := Claim7.holds Tryd.pinned (.plain (OpenSpec.ofChange travelValidSpec)) travelValidCard

/-- THE TIED CARD OF 'timetablelaw08.TravelReads'. -/
def travelReadsCard : Claim7 := { stood := { row := travelReadsRow, standIns := [], harness := (true, "c92af017e8b7a9e3f91bab573d7b32e7c8a9a0f754c709f6f2a944c969a35601"), looks := true }, kinds := [], alts := [], laidByText := true, laidKinds := [.data, .data, .data, .sentinel, .sentinel], laidTests := true, laidLooks := .later }
def TravelReadsCardSaid : Prop := Claim7.holds Tryd.pinned (.plain (OpenSpec.ofChange travelReadsSpec)) travelReadsCard

/-- THE SECOND FORM's CARD OF 'timetablelaw08.TravelValid'. -/
def travelValidUptoCard : Claim7 := { stood := { row := travelValidUptoRow, standIns := [], harness := (true, "c92af017e8b7a9e3f91bab573d7b32e7c8a9a0f754c709f6f2a944c969a35601"), looks := true }, kinds := [], alts := [], laidByText := true, laidKinds := [.data, .data, .data, .sentinel, .sentinel], laidTests := true, laidLooks := .later }
def TravelValidUptoCardSaid : Prop := Claim7.holds Tryd.pinned (.plain (OpenSpec.upto travelValidSpec)) travelValidUptoCard

/-- THE SECOND FORM's CARD OF 'timetablelaw08.TravelReads'. -/
def travelReadsUptoCard : Claim7 := { stood := { row := travelReadsUptoRow, standIns := [], harness := (true, "c92af017e8b7a9e3f91bab573d7b32e7c8a9a0f754c709f6f2a944c969a35601"), looks := true }, kinds := [], alts := [], laidByText := true, laidKinds := [.data, .data, .data, .sentinel, .sentinel], laidTests := true, laidLooks := .later }
def TravelReadsUptoCardSaid : Prop := Claim7.holds Tryd.pinned (.plain (OpenSpec.upto travelReadsSpec)) travelReadsUptoCard
end Rows
end Go.Proofs.YtocmbifljkcmeaaDoor
