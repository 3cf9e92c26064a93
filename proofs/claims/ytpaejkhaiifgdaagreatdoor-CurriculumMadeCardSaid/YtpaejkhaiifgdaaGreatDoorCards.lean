/-
  DERIVED. GIVEN WITH THE SEED: THE CARDS: each row of YtpaejkhaiifgdaaGreatDoorRows.lean that lists a variable, with what it lists TIED to the program's text (the seventh form; the later family's looks); each row that meets fmt, with fmt's text TOLD by the authors' own Lean function (tested against real Go, not proved from fmt's source: count such statements apart). THE CARD IS WHAT COUNTS. Prove the row's statement (the work); the ties are given (YtpaejkhaiifgdaaGreatDoorTie.lean); close each card by the builder's one call (the guide's Derived/Test/ToyasCard.lean, 'card_holds'). Laid BY PROGRAM, IN A SANDBOX (cutbox-door.mjs). By AI agents, Wed Nov 11 2026. No macro, syntax, notation, axiom, sorry.
-/
import Derived.Test.YtpaejkhaiifgdaaGreatDoorRows
import GoSem.ClaimSeven
namespace Go.Proofs.YtpaejkhaiifgdaaGreatDoor
namespace Rows

/-- THE TIED CARD OF 'timetablelaw11.CurriculumExact'. -/
def curriculumExactCard : Claim7 := { stood := { row := curriculumExactRow, standIns := [], harness := (true, "904181728e313ecfc14e0279760d74b30a459ae134a90a74ca1078bfe13a4e44"), looks := true }, kinds := [], alts := [], laidByText := true, laidKinds := [.data, .data, .data, .data, .sentinel, .sentinel, .pinned], laidTests := true, laidLooks := .later }
def CurriculumExactCardSaid : Prop := Claim7.holds Tryz.pinned (.plain (OpenSpec.ofChange curriculumExactSpec)) curriculumExactCard

/-- THE TIED CARD OF 'timetablelaw11.CurriculumMade'. -/
def curriculumMadeCard : Claim7 := { stood := { row := curriculumMadeRow, standIns := [], harness := (true, "904181728e313ecfc14e0279760d74b30a459ae134a90a74ca1078bfe13a4e44"), looks := true }, kinds := [], alts := [], laidByText := true, laidKinds := [.data, .data, .data, .widerDeep, .data, .sentinel, .sentinel, .pinned], laidTests := true, laidLooks := .later }
def CurriculumMadeCardSaid : Prop := Claim7.holds Tryz.pinned (.plain (OpenSpec.ofChange curriculumMadeSpec)) curriculumMadeCard

/-- THE TIED CARD OF 'timetablelaw11.CurriculumReturns'. -/
def curriculumReturnsCard : Claim7 := { stood := { row := curriculumReturnsRow, standIns := [], harness := (true, "904181728e313ecfc14e0279760d74b30a459ae134a90a74ca1078bfe13a4e44"), looks := true }, kinds := [], alts := [], laidByText := true, laidKinds := [.data, .data, .data, .widerDeep, .data, .sentinel, .sentinel, .pinned], laidTests := true, laidLooks := .later }
def CurriculumReturnsCardSaid : Prop := Claim7.holds Tryz.pinned (.plain (OpenSpec.ofChange curriculumReturnsSpec)) curriculumReturnsCard

/-- THE TIED CARD OF 'timetablelaw11.CurriculumGrows'. -/
def curriculumGrowsCard : Claim7 := { stood := { row := curriculumGrowsRow, standIns := [], harness := (true, "904181728e313ecfc14e0279760d74b30a459ae134a90a74ca1078bfe13a4e44"), looks := true }, kinds := [], alts := [], laidByText := true, laidKinds := [.data, .data, .data, .widerDeep, .data, .sentinel, .sentinel, .pinned], laidTests := true, laidLooks := .later }
def CurriculumGrowsCardSaid : Prop := Claim7.holds Tryz.pinned (.plain (OpenSpec.ofChange curriculumGrowsSpec)) curriculumGrowsCard

/-- THE SECOND FORM's CARD OF 'timetablelaw11.CurriculumExact'. -/
def curriculumExactUptoCard : Claim7 := { stood := { row := curriculumExactUptoRow, standIns := [], harness := (true, "904181728e313ecfc14e0279760d74b30a459ae134a90a74ca1078bfe13a4e44"), looks := true }, kinds := [], alts := [], laidByText := true, laidKinds := [.data, .data, .data, .data, .sentinel, .sentinel, .pinned], laidTests := true, laidLooks := .later }
def CurriculumExactUptoCardSaid : Prop := Claim7.holds Tryz.pinned (.plain (OpenSpec.upto curriculumExactSpec)) curriculumExactUptoCard

/-- THE SECOND FORM's CARD OF 'timetablelaw11.CurriculumMade'. -/
def curriculumMadeUptoCard : Claim7 := { stood := { row := curriculumMadeUptoRow, standIns := [], harness := (true, "904181728e313ecfc14e0279760d74b30a459ae134a90a74ca1078bfe13a4e44"), looks := true }, kinds := [], alts := [], laidByText := true, laidKinds := [.data, .data, .data, .widerDeep, .data, .sentinel, .sentinel, .pinned], laidTests := true, laidLooks := .later }
def CurriculumMadeUptoCardSaid : Prop := Claim7.holds Tryz.pinned (.plain (OpenSpec.upto curriculumMadeSpec)) curriculumMadeUptoCard

/-- THE SECOND FORM's CARD OF 'timetablelaw11.CurriculumReturns'. -/
def curriculumReturnsUptoCard : Claim7 := { stood := { row := curriculumReturnsUptoRow, standIns := [], harness := (true, "904181728e313ecfc14e0279760d74b30a459ae134a90a74ca1078bfe13a4e44"), looks := true }, kinds := [], alts := [], laidByText := true, laidKinds := [.data, .data, .data, .widerDeep, .data, .sentinel, .sentinel, .pinned], laidTests := true, laidLooks := .later }
def CurriculumReturnsUptoCardSaid : Prop := Claim7.holds Tryz.pinned (.plain (OpenSpec.upto curriculumReturnsSpec)) curriculumReturnsUptoCard

/-- THE SECOND FORM's CARD OF 'timetablelaw11.CurriculumGrows'. -/
def curriculumGrowsUptoCard : Claim7 := { stood := { row := curriculumGrowsUptoRow, standIns := [], harness := (true, "904181728e313ecfc14e0279760d74b30a459ae134a90a74ca1078bfe13a4e44"), looks := true }, kinds := [], alts := [], laidByText := true, laidKinds := [.data, .data, .data, .widerDeep, .data, .sentinel, .sentinel, .pinned], laidTests := true, laidLooks := .later }
def CurriculumGrowsUptoCardSaid : Prop := Claim7.holds Tryz.pinned (.plain (OpenSpec.upto curriculumGrowsSpec)) curriculumGrowsUptoCard
end Rows
end Go.Proofs.YtpaejkhaiifgdaaGreatDoor
