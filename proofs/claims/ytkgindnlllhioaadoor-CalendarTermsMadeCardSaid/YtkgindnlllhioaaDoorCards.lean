/-
  DERIVED. GIVEN WITH THE SEED: THE CARDS: each row of YtkgindnlllhioaaDoorRows.lean that lists a variable, with what it lists TIED to the program's text (the seventh form; the later family's looks); each row that meets fmt, with fmt's text TOLD by the authors' own Lean function (tested against real Go, not proved from fmt's source: count such statements apart). THE CARD IS WHAT COUNTS. Prove the row's statement (the work); the ties are given (YtkgindnlllhioaaDoorTie.lean); close each card by the builder's one call (the guide's Derived/Test/ToyasCard.lean, 'card_holds'). Laid BY PROGRAM, IN A SANDBOX (cutbox-door.mjs). By AI agents, Wed Nov 11 2026. No macro, syntax, notation, axiom, sorry.
-/
import Derived.Test.YtkgindnlllhioaaDoorRows
import GoSem.ClaimSeven
namespace Go.Proofs.YtkgindnlllhioaaDoor
namespace Rows

/-- THE TIED CARD OF 'timetablelaw04.CalendarDates'. -/
def calendarDatesCard : Claim7 := { stood := { row := calendarDatesRow, standIns := [], harness := (true, "4b65a6674b4d48f3f9e2ae27b95c2a47c2f05b8d56d31f34c157fd8499111dce"), looks := false }, kinds := [], alts := [], laidByText := true, laidKinds := [.data], laidTests := true, laidLooks := .later }
def CalendarDatesCardSaid : Prop := Claim7.holds Tryd.pinned (.plain (OpenSpec.ofChange calendarDatesSpec)) calendarDatesCard

/-- THE TIED CARD OF 'timetablelaw04.CalendarFollows'. -/
def calendarFollowsCard : Claim7 := { stood := { row := calendarFollowsRow, standIns := [], harness := (true, "4b65a6674b4d48f3f9e2ae27b95c2a47c2f05b8d56d31f34c157fd8499111dce"), looks := false }, kinds := [], alts := [], laidByText := true, laidKinds := [.data], laidTests := true, laidLooks := .later }
def CalendarFollowsCardSaid : Prop := Claim7.holds Tryd.pinned (.plain (OpenSpec.ofChange calendarFollowsSpec)) calendarFollowsCard

/-- THE TIED CARD OF 'timetablelaw04.CalendarTerms'. -/
def calendarTermsCard : Claim7 := { stood := { row := calendarTermsRow, standIns := [], harness := (true, "4b65a6674b4d48f3f9e2ae27b95c2a47c2f05b8d56d31f34c157fd8499111dce"), looks := false }, kinds := [], alts := [], laidByText := true, laidKinds := [.data], laidTests := true, laidLooks := .later }
def CalendarTermsCardSaid : Prop := Claim7.holds Tryd.pinned (.plain (OpenSpec.ofChange calendarTermsSpec)) calendarTermsCard

/-- THE TIED CARD OF 'timetablelaw04.CalendarTermsMade'. -/
def calendarTermsMadeCard : Claim7 := { stood := { row := calendarTermsMadeRow, standIns := [], harness := (true, "4b65a6674b4d48f3f9e2ae27b95c2a47c2f05b8d56d31f34c157fd8499111dce"), looks := false }, kinds := [], alts := [], laidByText := true, laidKinds := [.data], laidTests := true, laidLooks := .later }
def CalendarTermsMadeCardSaid : Prop := Claim7.holds Tryd.pinned (.plain (OpenSpec.ofChange calendarTermsMadeSpec)) calendarTermsMadeCard

/-- THE TIED CARD OF 'timetablelaw04.CalendarPlaces'. -/
def calendarPlacesCard : Claim7 := { stood := { row := calendarPlacesRow, standIns := [], harness := (true, "4b65a6674b4d48f3f9e2ae27b95c2a47c2f05b8d56d31f34c157fd8499111dce"), looks := false }, kinds := [], alts := [], laidByText := true, laidKinds := [.data], laidTests := true, laidLooks := .later }
def CalendarPlacesCardSaid : Prop := Claim7.holds Tryd.pinned (.plain (OpenSpec.ofChange calendarPlacesSpec)) calendarPlacesCard

/-- THE SECOND FORM's CARD OF 'timetablelaw04.CalendarDates'. -/
def calendarDatesUptoCard : Claim7 := { stood := { row := calendarDatesUptoRow, standIns := [], harness := (true, "4b65a6674b4d48f3f9e2ae27b95c2a47c2f05b8d56d31f34c157fd8499111dce"), looks := false }, kinds := [], alts := [], laidByText := true, laidKinds := [.data], laidTests := true, laidLooks := .later }
def CalendarDatesUptoCardSaid : Prop := Claim7.holds Tryd.pinned (.plain (OpenSpec.upto calendarDatesSpec)) calendarDatesUptoCard

/-- THE SECOND FORM's CARD OF 'timetablelaw04.CalendarFollows'. -/
def calendarFollowsUptoCard : Claim7 := { stood := { row := calendarFollowsUptoRow, standIns := [], harness := (true, "4b65a6674b4d48f3f9e2ae27b95c2a47c2f05b8d56d31f34c157fd8499111dce"), looks := false }, kinds := [], alts := [], laidByText := true, laidKinds := [.data], laidTests := true, laidLooks := .later }
def CalendarFollowsUptoCardSaid : Prop := Claim7.holds Tryd.pinned (.plain (OpenSpec.upto calendarFollowsSpec)) calendarFollowsUptoCard

/-- THE SECOND FORM's CARD OF 'timetablelaw04.CalendarTerms'. -/
def calendarTermsUptoCard : Claim7 := { stood := { row := calendarTermsUptoRow, standIns := [], harness := (true, "4b65a6674b4d48f3f9e2ae27b95c2a47c2f05b8d56d31f34c157fd8499111dce"), looks := false }, kinds := [], alts := [], laidByText := true, laidKinds := [.data], laidTests := true, laidLooks := .later }
def CalendarTermsUptoCardSaid : Prop := Claim7.holds Tryd.pinned (.plain (OpenSpec.upto calendarTermsSpec)) calendarTermsUptoCard

/-- THE SECOND FORM's CARD OF 'timetablelaw04.CalendarTermsMade'. -/
def calendarTermsMadeUptoCard : Claim7 := { stood := { row := calendarTermsMadeUptoRow, standIns := [], harness := (true, "4b65a6674b4d48f3f9e2ae27b95c2a47c2f05b8d56d31f34c157fd8499111dce"), looks := false }, kinds := [], alts := [], laidByText := true, laidKinds := [.data], laidTests := true, laidLooks := .later }
def CalendarTermsMadeUptoCardSaid : Prop := Claim7.holds Tryd.pinned (.plain (OpenSpec.upto calendarTermsMadeSpec)) calendarTermsMadeUptoCard

/-- THE SECOND FORM's CARD OF 'timetablelaw04.CalendarPlaces'. -/
def calendarPlacesUptoCard : Claim7 := { stood := { row := calendarPlacesUptoRow, standIns := [], harness := (true, "4b65a6674b4d48f3f9e2ae27b95c2a47c2f05b8d56d31f34c157fd8499111dce"), looks := false }, kinds := [], alts := [], laidByText := true, laidKinds := [.data], laidTests := true, laidLooks := .later }
def CalendarPlacesUptoCardSaid : Prop := Claim7.holds Tryd.pinned (.plain (OpenSpec.upto calendarPlacesSpec)) calendarPlacesUptoCard
end Rows
end Go.Proofs.YtkgindnlllhioaaDoor
