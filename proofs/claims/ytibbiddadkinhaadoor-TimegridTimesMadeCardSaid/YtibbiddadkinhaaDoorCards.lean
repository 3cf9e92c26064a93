/-
  DERIVED. GIVEN WITH THE SEED: THE CARDS: each row of YtibbiddadkinhaaDoorRows.lean that lists a variable, with what it lists TIED to the program's text (the seventh form; the later family's looks); each row that meets fmt, with fmt's text TOLD by the authors' own Lean function (tested against real Go, not proved from fmt's source: count such statements apart). THE CARD IS WHAT COUNTS. Prove the row's statement (the work); the ties are given (YtibbiddadkinhaaDoorTie.lean); close each card by the builder's one call (the guide's Derived/Test/ToyasCard.lean, 'card_holds'). Laid BY PROGRAM, IN A SANDBOX (cutbox-door.mjs). By AI agents, Wed Nov 11 2026. No macro, syntax, notation, axiom, sorry.
-/
import Derived.Test.YtibbiddadkinhaaDoorRows
import GoSem.ClaimSeven
namespace Go.Proofs.YtibbiddadkinhaaDoor
namespace Rows

/-- THE TIED CARD OF 'timetablelaw06.TimegridTimes'. -/
def timegridTimesCard : Claim7 := { stood := { row := timegridTimesRow, standIns := [], harness := (true, "e150abe6d64beae03fe04e38e67315c7d02b9ba9ccf200c3594672b2ad2410f8"), looks := true }, kinds := [], alts := [], laidByText := true, laidKinds := [.data, .data, .data, .data, .sentinel, .sentinel, .data, .data, .pinned], laidTests := true, laidLooks := .later }
def TimegridTimesCardSaid : Prop := Claim7.holds Tryd.pinned (.plain (OpenSpec.ofChange timegridTimesSpec)) timegridTimesCard

/-- THE TIED CARD OF 'timetablelaw06.TimegridTimesMade'. -/
def timegridTimesMadeCard : Claim7 := { stood := { row := timegridTimesMadeRow, standIns := [], harness := (true, "e150abe6d64beae03fe04e38e67315c7d02b9ba9ccf200c3594672b2ad2410f8"), looks := true }, kinds := [], alts := [], laidByText := true, laidKinds := [.data, .data, .data, .data, .sentinel, .sentinel, .data, .data, .pinned], laidTests := true, laidLooks := .later }
def TimegridTimesMadeCardSaid : Prop := Claim7.holds Tryd.pinned (.plain (OpenSpec.ofChange timegridTimesMadeSpec)) timegridTimesMadeCard

/-- THE TIED CARD OF 'timetablelaw06.TimegridReturns'. -/
def timegridReturnsCard : Claim7 := { stood := { row := timegridReturnsRow, standIns := [], harness := (true, "e150abe6d64beae03fe04e38e67315c7d02b9ba9ccf200c3594672b2ad2410f8"), looks := true }, kinds := [], alts := [], laidByText := true, laidKinds := [.data, .data, .data, .data, .sentinel, .sentinel, .data, .data, .pinned], laidTests := true, laidLooks := .later }
def TimegridReturnsCardSaid : Prop := Claim7.holds Tryd.pinned (.plain (OpenSpec.ofChange timegridReturnsSpec)) timegridReturnsCard

/-- THE TIED CARD OF 'timetablelaw06.TimegridMeets'. -/
def timegridMeetsCard : Claim7 := { stood := { row := timegridMeetsRow, standIns := [], harness := (true, "e150abe6d64beae03fe04e38e67315c7d02b9ba9ccf200c3594672b2ad2410f8"), looks := true }, kinds := [], alts := [], laidByText := true, laidKinds := [.data, .data, .data, .data, .sentinel, .sentinel, .data, .data, .pinned], laidTests := true, laidLooks := .later }
def TimegridMeetsCardSaid : Prop := Claim7.holds Tryd.pinned (.plain (OpenSpec.ofChange timegridMeetsSpec)) timegridMeetsCard

/-- THE SECOND FORM's CARD OF 'timetablelaw06.TimegridTimes'. -/
def timegridTimesUptoCard : Claim7 := { stood := { row := timegridTimesUptoRow, standIns := [], harness := (true, "e150abe6d64beae03fe04e38e67315c7d02b9ba9ccf200c3594672b2ad2410f8"), looks := true }, kinds := [], alts := [], laidByText := true, laidKinds := [.data, .data, .data, .data, .sentinel, .sentinel, .data, .data, .pinned], laidTests := true, laidLooks := .later }
def TimegridTimesUptoCardSaid : Prop := Claim7.holds Tryd.pinned (.plain (OpenSpec.upto timegridTimesSpec)) timegridTimesUptoCard

/-- THE SECOND FORM's CARD OF 'timetablelaw06.TimegridTimesMade'. -/
def timegridTimesMadeUptoCard : Claim7 := { stood := { row := timegridTimesMadeUptoRow, standIns := [], harness := (true, "e150abe6d64beae03fe04e38e67315c7d02b9ba9ccf200c3594672b2ad2410f8"), looks := true }, kinds := [], alts := [], laidByText := true, laidKinds := [.data, .data, .data, .data, .sentinel, .sentinel, .data, .data, .pinned], laidTests := true, laidLooks := .later }
def TimegridTimesMadeUptoCardSaid : Prop := Claim7.holds Tryd.pinned (.plain (OpenSpec.upto timegridTimesMadeSpec)) timegridTimesMadeUptoCard

/-- THE SECOND FORM's CARD OF 'timetablelaw06.TimegridReturns'. -/
def timegridReturnsUptoCard : Claim7 := { stood := { row := timegridReturnsUptoRow, standIns := [], harness := (true, "e150abe6d64beae03fe04e38e67315c7d02b9ba9ccf200c3594672b2ad2410f8"), looks := true }, kinds := [], alts := [], laidByText := true, laidKinds := [.data, .data, .data, .data, .sentinel, .sentinel, .data, .data, .pinned], laidTests := true, laidLooks := .later }
def TimegridReturnsUptoCardSaid : Prop := Claim7.holds Tryd.pinned (.plain (OpenSpec.upto timegridReturnsSpec)) timegridReturnsUptoCard

/-- THE SECOND FORM's CARD OF 'timetablelaw06.TimegridMeets'. -/
def timegridMeetsUptoCard : Claim7 := { stood := { row := timegridMeetsUptoRow, standIns := [], harness := (true, "e150abe6d64beae03fe04e38e67315c7d02b9ba9ccf200c3594672b2ad2410f8"), looks := true }, kinds := [], alts := [], laidByText := true, laidKinds := [.data, .data, .data, .data, .sentinel, .sentinel, .data, .data, .pinned], laidTests := true, laidLooks := .later }
def TimegridMeetsUptoCardSaid : Prop := Claim7.holds Tryd.pinned (.plain (OpenSpec.upto timegridMeetsSpec)) timegridMeetsUptoCard
end Rows
end Go.Proofs.YtibbiddadkinhaaDoor
