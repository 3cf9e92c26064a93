/-
  DERIVED. GIVEN WITH THE SEED: THE CARDS: each row of YteckefolakjafaaGreatDoorRows.lean that lists a variable, with what it lists TIED to the program's text (the seventh form; the later family's looks); each row that meets fmt, with fmt's text TOLD by the authors' own Lean function (tested against real Go, not proved from fmt's source: count such statements apart). THE CARD IS WHAT COUNTS. Prove the row's statement (the work); the ties are given (YteckefolakjafaaGreatDoorTie.lean); close each card by the builder's one call (the guide's Derived/Test/ToyasCard.lean, 'card_holds'). Laid BY PROGRAM, IN A SANDBOX (cutbox-door.mjs). By AI agents, Wed Nov 11 2026. No macro, syntax, notation, axiom, sorry.
-/
import Derived.Test.YteckefolakjafaaGreatDoorRows
import GoSem.ClaimSeven
namespace Go.Proofs.YteckefolakjafaaGreatDoor
namespace Rows

/-- THE TIED CARD OF 'timetablelaw07.RoomfileValid'. -/
def roomfileValidCard : Claim7 := { stood := { row := roomfileValidRow, standIns := [], harness := (true, "8af4f77a17708e5e59c678411aa9ac45084149e5ccb6bdbdf86a2c46bea648b4"), looks := true }, kinds := [], alts := [], laidByText := true, laidKinds := [.data, .data, .data, .data, .data, .data, .sentinel, .sentinel, .data, .data, .pinned], laidTests := true, laidLooks := .later }
def RoomfileValidCardSaid : Prop := Claim7.holds Tryz.pinned (.plain (OpenSpec.ofChange roomfileValidSpec)) roomfileValidCard

/-- THE TIED CARD OF 'timetablelaw07.RoomfileReads'. -/
def roomfileReadsCard : Claim7 := { stood := { row := roomfileReadsRow, standIns := [], harness := (true, "8af4f77a17708e5e59c678411aa9ac45084149e5ccb6bdbdf86a2c46bea648b4"), looks := true }, kinds := [], alts := [], laidByText := true, laidKinds := [.data, .data, .data, .data, .data, .data, .sentinel, .sentinel, .data, .data, .pinned], laidTests := true, laidLooks := .later }
def RoomfileReadsCardSaid : Prop := Claim7.holds Tryz.pinned (.plain (OpenSpec.ofChange roomfileReadsSpec)) roomfileReadsCard

/-- THE SECOND FORM's CARD OF 'timetablelaw07.RoomfileValid'. -/
def roomfileValidUptoCard : Claim7 := { stood := { row := roomfileValidUptoRow, standIns := [], harness := (true, "8af4f77a17708e5e59c678411aa9ac45084149e5ccb6bdbdf86a2c46bea648b4"), looks := true }, kinds := [], alts := [], laidByText := true, laidKinds := [.data, .data, .data, .data, .data, .data, .sentinel, .sentinel, .data, .data, .pinned], laidTests := true, laidLooks := .later }
def RoomfileValidUptoCardSaid : Prop := Claim7.holds Tryz.pinned (.plain (OpenSpec.upto roomfileValidSpec)) roomfileValidUptoCard

/-- THE SECOND FORM's CARD OF 'timetablelaw07.RoomfileReads'. -/
def roomfileReadsUptoCard : Claim7 := { stood := { row := roomfileReadsUptoRow, standIns := [], harness := (true, "8af4f77a17708e5e59c678411aa9ac45084149e5ccb6bdbdf86a2c46bea648b4"), looks := true }, kinds := [], alts := [], laidByText := true, laidKinds := [.data, .data, .data, .data, .data, .data, .sentinel, .sentinel, .data, .data, .pinned], laidTests := true, laidLooks := .later }
def RoomfileReadsUptoCardSaid : Prop := Claim7.holds Tryz.pinned (.plain (OpenSpec.upto roomfileReadsSpec)) roomfileReadsUptoCard
end Rows
end Go.Proofs.YteckefolakjafaaGreatDoor
