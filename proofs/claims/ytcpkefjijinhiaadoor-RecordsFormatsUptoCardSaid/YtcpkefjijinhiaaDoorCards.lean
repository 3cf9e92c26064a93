/-
  DERIVED. GIVEN WITH THE SEED: THE CARDS: each row of YtcpkefjijinhiaaDoorRows.lean that lists a variable, with what it lists TIED to the program's text (the seventh form; the later family's looks); each row that meets fmt, with fmt's text TOLD by the authors' own Lean function (tested against real Go, not proved from fmt's source: count such statements apart). THE CARD IS WHAT COUNTS. Prove the row's statement (the work); the ties are given (YtcpkefjijinhiaaDoorTie.lean); close each card by the builder's one call (the guide's Derived/Test/ToyasCard.lean, 'card_holds'). Laid BY PROGRAM, IN A SANDBOX (cutbox-door.mjs). By AI agents, Wed Nov 11 2026. No macro, syntax, notation, axiom, sorry.
-/
import Derived.Test.YtcpkefjijinhiaaDoorRows
import GoSem.ClaimSeven
namespace Go.Proofs.YtcpkefjijinhiaaDoor
namespace Rows

/-- THE TIED CARD OF 'timetablelaw02.RecordsParses'. -/
def recordsParsesCard : Claim7 := { stood := { row := recordsParsesRow, standIns := [], harness := (true, "c9e3ad7a78f451cb2dff89c71a3120b7683d5f1a4e7347aeac1d00b2750d8dfd"), looks := false }, kinds := [], alts := [], laidByText := true, laidKinds := [.data, .pinned], laidTests := true, laidLooks := .later }
def RecordsParsesCardSaid : Prop := Claim7.holds Tryd.pinned (.plain (OpenSpec.ofChange recordsParsesSpec)) recordsParsesCard

/-- THE TIED CARD OF 'timetablelaw02.RecordsParsesMade'. -/
def recordsParsesMadeCard : Claim7 := { stood := { row := recordsParsesMadeRow, standIns := [], harness := (true, "c9e3ad7a78f451cb2dff89c71a3120b7683d5f1a4e7347aeac1d00b2750d8dfd"), looks := false }, kinds := [], alts := [], laidByText := true, laidKinds := [.data, .pinned], laidTests := true, laidLooks := .later }
def RecordsParsesMadeCardSaid : Prop := Claim7.holds Tryd.pinned (.plain (OpenSpec.ofChange recordsParsesMadeSpec)) recordsParsesMadeCard

/-- THE TIED CARD OF 'timetablelaw02.RecordsFormats'. -/
def recordsFormatsCard : Claim7 := { stood := { row := recordsFormatsRow, standIns := [], harness := (true, "c9e3ad7a78f451cb2dff89c71a3120b7683d5f1a4e7347aeac1d00b2750d8dfd"), looks := false }, kinds := [], alts := [], laidByText := true, laidKinds := [.data, .pinned], laidTests := true, laidLooks := .later }
def RecordsFormatsCardSaid : Prop := Claim7.holds Tryd.pinned (.plain (OpenSpec.ofChange recordsFormatsSpec)) recordsFormatsCard

/-- THE TIED CARD OF 'timetablelaw02.RecordsReturns'. -/
def recordsReturnsCard : Claim7 := { stood := { row := recordsReturnsRow, standIns := [], harness := (true, "c9e3ad7a78f451cb2dff89c71a3120b7683d5f1a4e7347aeac1d00b2750d8dfd"), looks := false }, kinds := [], alts := [], laidByText := true, laidKinds := [.data, .pinned], laidTests := true, laidLooks := .later }
def RecordsReturnsCardSaid : Prop := Claim7.holds Tryd.pinned (.plain (OpenSpec.ofChange recordsReturnsSpec)) recordsReturnsCard

/-- THE TIED CARD OF 'timetablelaw02.RecordsPlaces'. -/
def recordsPlacesCard : Claim7 := { stood := { row := recordsPlacesRow, standIns := [], harness := (true, "c9e3ad7a78f451cb2dff89c71a3120b7683d5f1a4e7347aeac1d00b2750d8dfd"), looks := false }, kinds := [], alts := [], laidByText := true, laidKinds := [.data, .pinned], laidTests := true, laidLooks := .later }
def RecordsPlacesCardSaid : Prop := Claim7.holds Tryd.pinned (.plain (OpenSpec.ofChange recordsPlacesSpec)) recordsPlacesCard

/-- THE TIED CARD OF 'timetablelaw02.RecordsLimits'. -/
def recordsLimitsCard : Claim7 := { stood := { row := recordsLimitsRow, standIns := [], harness := (true, "c9e3ad7a78f451cb2dff89c71a3120b7683d5f1a4e7347aeac1d00b2750d8dfd"), looks := false }, kinds := [], alts := [], laidByText := true, laidKinds := [.data, .pinned], laidTests := true, laidLooks := .later }
def RecordsLimitsCardSaid : Prop := Claim7.holds Tryd.pinned (.plain (OpenSpec.ofChange recordsLimitsSpec)) recordsLimitsCard

/-- THE SECOND FORM's CARD OF 'timetablelaw02.RecordsParses'. -/
def recordsParsesUptoCard : Claim7 := { stood := { row := recordsParsesUptoRow, standIns := [], harness := (true, "c9e3ad7a78f451cb2dff89c71a3120b7683d5f1a4e7347aeac1d00b2750d8dfd"), looks := false }, kinds := [], alts := [], laidByText := true, laidKinds := [.data, .pinned], laidTests := true, laidLooks := .later }
def RecordsParsesUptoCardSaid : Prop := Claim7.holds Tryd.pinned (.plain (OpenSpec.upto recordsParsesSpec)) recordsParsesUptoCard

/-- THE SECOND FORM's CARD OF 'timetablelaw02.RecordsParsesMade'. -/
def recordsParsesMadeUptoCard : Claim7 := { stood := { row := recordsParsesMadeUptoRow, standIns := [], harness := (true, "c9e3ad7a78f451cb2dff89c71a3120b7683d5f1a4e7347aeac1d00b2750d8dfd"), looks := false }, kinds := [], alts := [], laidByText := true, laidKinds := [.data, .pinned], laidTests := true, laidLooks := .later }
def RecordsParsesMadeUptoCardSaid : Prop := Claim7.holds Tryd.pinned (.plain (OpenSpec.upto recordsParsesMadeSpec)) recordsParsesMadeUptoCard

/-- THE SECOND FORM's CARD OF 'timetablelaw02.RecordsFormats'. -/
def recordsFormatsUptoCard : Claim7 := { stood := { row := recordsFormatsUptoRow, standIns := [], harness := (true, "c9e3ad7a78f451cb2dff89c71a3120b7683d5f1a4e7347aeac1d00b2750d8dfd"), looks := false }, kinds := [], alts := [], laidByText := true, laidKinds := [.data, .pinned], laidTests := true, laidLooks := .later }
def RecordsFormatsUptoCardSaid : Prop := Claim7.holds Tryd.pinned (.plain (OpenSpec.upto recordsFormatsSpec)) recordsFormatsUptoCard

/-- THE SECOND FORM's CARD OF 'timetablelaw02.RecordsReturns'. -/
def recordsReturnsUptoCard : Claim7 := { stood := { row := recordsReturnsUptoRow, standIns := [], harness := (true, "c9e3ad7a78f451cb2dff89c71a3120b7683d5f1a4e7347aeac1d00b2750d8dfd"), looks := false }, kinds := [], alts := [], laidByText := true, laidKinds := [.data, .pinned], laidTests := true, laidLooks := .later }
def RecordsReturnsUptoCardSaid : Prop := Claim7.holds Tryd.pinned (.plain (OpenSpec.upto recordsReturnsSpec)) recordsReturnsUptoCard

/-- THE SECOND FORM's CARD OF 'timetablelaw02.RecordsPlaces'. -/
def recordsPlacesUptoCard : Claim7 := { stood := { row := recordsPlacesUptoRow, standIns := [], harness := (true, "c9e3ad7a78f451cb2dff89c71a3120b7683d5f1a4e7347aeac1d00b2750d8dfd"), looks := false }, kinds := [], alts := [], laidByText := true, laidKinds := [.data, .pinned], laidTests := true, laidLooks := .later }
def RecordsPlacesUptoCardSaid : Prop := Claim7.holds Tryd.pinned (.plain (OpenSpec.upto recordsPlacesSpec)) recordsPlacesUptoCard

/-- THE SECOND FORM's CARD OF 'timetablelaw02.RecordsLimits'. -/
def recordsLimitsUptoCard : Claim7 := { stood := { row := recordsLimitsUptoRow, standIns := [], harness := (true, "c9e3ad7a78f451cb2dff89c71a3120b7683d5f1a4e7347aeac1d00b2750d8dfd"), looks := false }, kinds := [], alts := [], laidByText := true, laidKinds := [.data, .pinned], laidTests := true, laidLooks := .later }
def RecordsLimitsUptoCardSaid : Prop := Claim7.holds Tryd.pinned (.plain (OpenSpec.upto recordsLimitsSpec)) recordsLimitsUptoCard
end Rows
end Go.Proofs.YtcpkefjijinhiaaDoor
