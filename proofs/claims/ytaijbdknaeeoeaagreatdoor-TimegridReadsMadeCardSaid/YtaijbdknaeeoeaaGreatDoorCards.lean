/-
  DERIVED. GIVEN WITH THE SEED: THE CARDS: each row of YtaijbdknaeeoeaaGreatDoorRows.lean that lists a variable, with what it lists TIED to the program's text (the seventh form; the later family's looks); each row that meets fmt, with fmt's text TOLD by the authors' own Lean function (tested against real Go, not proved from fmt's source: count such statements apart). THE CARD IS WHAT COUNTS. Prove the row's statement (the work); the ties are given (YtaijbdknaeeoeaaGreatDoorTie.lean); close each card by the builder's one call (the guide's Derived/Test/ToyasCard.lean, 'card_holds'). Laid BY PROGRAM, IN A SANDBOX (cutbox-door.mjs). By AI agents, Wed Nov 11 2026. No macro, syntax, notation, axiom, sorry.
-/
import Derived.Test.YtaijbdknaeeoeaaGreatDoorRows
import GoSem.ClaimSeven
namespace Go.Proofs.YtaijbdknaeeoeaaGreatDoor
namespace Rows

/-- THE TIED CARD OF 'timetablelaw06.TimegridReads'. -/
def timegridReadsCard : Claim7 := { stood := { row := timegridReadsRow, standIns := [], harness := (true, "9e673af03b0db34f2e8ec28c93c5dc6ddbfbd99d71bfae12db26acf9c2509edd"), looks := true }, kinds := [], alts := [], laidByText := true, laidKinds := [.data, .data, .data, .data, .data, .data, .sentinel, .sentinel, .data, .data, .pinned], laidTests := true, laidLooks := .later }
def TimegridReadsCardSaid : Prop := Claim7.holds Tryz.pinned (.plain (OpenSpec.ofChange timegridReadsSpec)) timegridReadsCard

/-- THE TIED CARD OF 'timetablelaw06.TimegridReadsMade'. -/
def timegridReadsMadeCard : Claim7 := { stood := { row := timegridReadsMadeRow, standIns := [], harness := (true, "9e673af03b0db34f2e8ec28c93c5dc6ddbfbd99d71bfae12db26acf9c2509edd"), looks := true }, kinds := [], alts := [], laidByText := true, laidKinds := [.data, .data, .data, .data, .data, .data, .sentinel, .sentinel, .data, .data, .pinned], laidTests := true, laidLooks := .later }
def TimegridReadsMadeCardSaid : Prop := Claim7.holds Tryz.pinned (.plain (OpenSpec.ofChange timegridReadsMadeSpec)) timegridReadsMadeCard

/-- THE SECOND FORM's CARD OF 'timetablelaw06.TimegridReads'. -/
def timegridReadsUptoCard : Claim7 := { stood := { row := timegridReadsUptoRow, standIns := [], harness := (true, "9e673af03b0db34f2e8ec28c93c5dc6ddbfbd99d71bfae12db26acf9c2509edd"), looks := true }, kinds := [], alts := [], laidByText := true, laidKinds := [.data, .data, .data, .data, .data, .data, .sentinel, .sentinel, .data, .data, .pinned], laidTests := true, laidLooks := .later }
def TimegridReadsUptoCardSaid : Prop := Claim7.holds Tryz.pinned (.plain (OpenSpec.upto timegridReadsSpec)) timegridReadsUptoCard

/-- THE SECOND FORM's CARD OF 'timetablelaw06.TimegridReadsMade'. -/
def timegridReadsMadeUptoCard : Claim7 := { stood := { row := timegridReadsMadeUptoRow, standIns := [], harness := (true, "9e673af03b0db34f2e8ec28c93c5dc6ddbfbd99d71bfae12db26acf9c2509edd"), looks := true }, kinds := [], alts := [], laidByText := true, laidKinds := [.data, .data, .data, .data, .data, .data, .sentinel, .sentinel, .data, .data, .pinned], laidTests := true, laidLooks := .later }
def TimegridReadsMadeUptoCardSaid : Prop := Claim7.holds Tryz.pinned (.plain (OpenSpec.upto timegridReadsMadeSpec)) timegridReadsMadeUptoCard
end Rows
end Go.Proofs.YtaijbdknaeeoeaaGreatDoor
