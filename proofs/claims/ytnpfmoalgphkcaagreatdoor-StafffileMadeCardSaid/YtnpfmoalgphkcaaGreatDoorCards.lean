/-
  DERIVED. GIVEN WITH THE SEED: THE CARDS: each row of YtnpfmoalgphkcaaGreatDoorRows.lean that lists a variable, with what it lists TIED to the program's text (the seventh form; the later family's looks); each row that meets fmt, with fmt's text TOLD by the authors' own Lean function (tested against real Go, not proved from fmt's source: count such statements apart). THE CARD IS WHAT COUNTS. Prove the row's statement (the work); the ties are given (YtnpfmoalgphkcaaGreatDoorTie.lean); close each card by the builder's one call (the guide's Derived/Test/ToyasCard.lean, 'card_holds'). Laid BY PROGRAM, IN A SANDBOX (cutbox-door.mjs). By AI agents, Wed Nov 11 2026. No macro, syntax, notation, axiom, sorry.
-/
import Derived.Test.YtnpfmoalgphkcaaGreatDoorRows
import GoSem.ClaimSeven
namespace Go.Proofs.YtnpfmoalgphkcaaGreatDoor
namespace Rows

/-- THE TIED CARD OF 'timetablelaw09.StafffileValid'. -/
def stafffileValidCard : Claim7 := { stood := { row := stafffileValidRow, standIns := [], harness := (true, "bebead9386b2339020453197c88e0f4ad3172e63d263d071645d59b44948089f"), looks := true }, kinds := [], alts := [], laidByText := true, laidKinds := [.data, .data, .data, .data, .data, .data, .sentinel, .sentinel, .data, .data, .pinned], laidTests := true, laidLooks := .later }
def StafffileValidCardSaid : Prop := Claim7.holds Tryz.pinned (.plain (OpenSpec.ofChange stafffileValidSpec)) stafffileValidCard

/-- THE TIED CARD OF 'timetablelaw09.StafffileReads'. -/
def stafffileReadsCard : Claim7 := { stood := { row := stafffileReadsRow, standIns := [], harness := (true, "bebead9386b2339020453197c88e0f4ad3172e63d263d071645d59b44948089f"), looks := true }, kinds := [], alts := [], laidByText := true, laidKinds := [.data, .data, .data, .data, .data, .data, .sentinel, .sentinel, .data, .data, .pinned], laidTests := true, laidLooks := .later }
def StafffileReadsCardSaid : Prop := Claim7.holds Tryz.pinned (.plain (OpenSpec.ofChange stafffileReadsSpec)) stafffileReadsCard

/-- THE TIED CARD OF 'timetablelaw09.StafffileMade'. -/
def stafffileMadeCard : Claim7 := { stood := { row := stafffileMadeRow, standIns := [], harness := (true, "bebead9386b2339020453197c88e0f4ad3172e63d263d071645d59b44948089f"), looks := true }, kinds := [], alts := [], laidByText := true, laidKinds := [.data, .data, .data, .data, .data, .data, .data, .sentinel, .sentinel, .data, .data, .pinned], laidTests := true, laidLooks := .later }
def StafffileMadeCardSaid : Prop := Claim7.holds Tryz.pinned (.plain (OpenSpec.ofChange stafffileMadeSpec)) stafffileMadeCard

/-- THE TIED CARD OF 'timetablelaw09.StafffileReturns'. -/
def stafffileReturnsCard : Claim7 := { stood := { row := stafffileReturnsRow, standIns := [], harness := (true, "bebead9386b2339020453197c88e0f4ad3172e63d263d071645d59b44948089f"), looks := true }, kinds := [], alts := [], laidByText := true, laidKinds := [.data, .data, .data, .data, .data, .sentinel, .sentinel, .data, .data, .pinned], laidTests := true, laidLooks := .later }
def StafffileReturnsCardSaid : Prop := Claim7.holds Tryz.pinned (.plain (OpenSpec.ofChange stafffileReturnsSpec)) stafffileReturnsCard

/-- THE TIED CARD OF 'timetablelaw09.StafffileAway'. -/
def stafffileAwayCard : Claim7 := { stood := { row := stafffileAwayRow, standIns := [], harness := (true, "bebead9386b2339020453197c88e0f4ad3172e63d263d071645d59b44948089f"), looks := true }, kinds := [], alts := [], laidByText := true, laidKinds := [.data, .data, .data, .data, .sentinel, .sentinel, .data, .data, .pinned], laidTests := true, laidLooks := .later }
def StafffileAwayCardSaid : Prop := Claim7.holds Tryz.pinned (.plain (OpenSpec.ofChange stafffileAwaySpec)) stafffileAwayCard

/-- THE SECOND FORM's CARD OF 'timetablelaw09.StafffileValid'. -/
def stafffileValidUptoCard : Claim7 := { stood := { row := stafffileValidUptoRow, standIns := [], harness := (true, "bebead9386b2339020453197c88e0f4ad3172e63d263d071645d59b44948089f"), looks := true }, kinds := [], alts := [], laidByText := true, laidKinds := [.data, .data, .data, .data, .data, .data, .sentinel, .sentinel, .data, .data, .pinned], laidTests := true, laidLooks := .later }
def StafffileValidUptoCardSaid : Prop := Claim7.holds Tryz.pinned (.plain (OpenSpec.upto stafffileValidSpec)) stafffileValidUptoCard

/-- THE SECOND FORM's CARD OF 'timetablelaw09.StafffileReads'. -/
def stafffileReadsUptoCard : Claim7 := { stood := { row := stafffileReadsUptoRow, standIns := [], harness := (true, "bebead9386b2339020453197c88e0f4ad3172e63d263d071645d59b44948089f"), looks := true }, kinds := [], alts := [], laidByText := true, laidKinds := [.data, .data, .data, .data, .data, .data, .sentinel, .sentinel, .data, .data, .pinned], laidTests := true, laidLooks := .later }
def StafffileReadsUptoCardSaid : Prop := Claim7.holds Tryz.pinned (.plain (OpenSpec.upto stafffileReadsSpec)) stafffileReadsUptoCard

/-- THE SECOND FORM's CARD OF 'timetablelaw09.StafffileMade'. -/
def stafffileMadeUptoCard : Claim7 := { stood := { row := stafffileMadeUptoRow, standIns := [], harness := (true, "bebead9386b2339020453197c88e0f4ad3172e63d263d071645d59b44948089f"), looks := true }, kinds := [], alts := [], laidByText := true, laidKinds := [.data, .data, .data, .data, .data, .data, .data, .sentinel, .sentinel, .data, .data, .pinned], laidTests := true, laidLooks := .later }
def StafffileMadeUptoCardSaid : Prop := Claim7.holds Tryz.pinned (.plain (OpenSpec.upto stafffileMadeSpec)) stafffileMadeUptoCard

/-- THE SECOND FORM's CARD OF 'timetablelaw09.StafffileReturns'. -/
def stafffileReturnsUptoCard : Claim7 := { stood := { row := stafffileReturnsUptoRow, standIns := [], harness := (true, "bebead9386b2339020453197c88e0f4ad3172e63d263d071645d59b44948089f"), looks := true }, kinds := [], alts := [], laidByText := true, laidKinds := [.data, .data, .data, .data, .data, .sentinel, .sentinel, .data, .data, .pinned], laidTests := true, laidLooks := .later }
def StafffileReturnsUptoCardSaid : Prop := Claim7.holds Tryz.pinned (.plain (OpenSpec.upto stafffileReturnsSpec)) stafffileReturnsUptoCard

/-- THE SECOND FORM's CARD OF 'timetablelaw09.StafffileAway'. -/
def stafffileAwayUptoCard : Claim7 := { stood := { row := stafffileAwayUptoRow, standIns := [], harness := (true, "bebead9386b2339020453197c88e0f4ad3172e63d263d071645d59b44948089f"), looks := true }, kinds := [], alts := [], laidByText := true, laidKinds := [.data, .data, .data, .data, .sentinel, .sentinel, .data, .data, .pinned], laidTests := true, laidLooks := .later }
def StafffileAwayUptoCardSaid : Prop := Claim7.holds Tryz.pinned (.plain (OpenSpec.upto stafffileAwaySpec)) stafffileAwayUptoCard
end Rows
end Go.Proofs.YtnpfmoalgphkcaaGreatDoor
