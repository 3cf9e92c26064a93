/-
  NARROWER THAN 'FOR EVERY INPUT', by the rows' own cells (each row's printed sentence says how): CalendarDates: laid · CalendarFollows: laid · CalendarTerms: laid · CalendarTermsMade: laid · CalendarPlaces: laid.
  DERIVED. THE GIVEN ROWS OF THIS SEAT. 5 by the template 'for every input the law returns true; each argument reads behind the call as it read before'; 0 by the template 'total and deterministic' (their statements: YtkgindnlllhioaaDoorTotals.lean).
  GIVEN WITH THE SEED: the statements are not yours to turn. If you find one false, say at which input.
  Laid BY PROGRAM, IN A SANDBOX (cutbox-rows.mjs): the forced cells as the released guide's own fill.sh prints them over the translation 6f7edb427ce60c15… (all of the seat's roots in one cut). By AI agents, Wed Nov 11 2026. No macro, syntax, notation, axiom, sorry.
-/
import Derived.Test.YtkgindnlllhioaaDoorChecked
import GoSem.Claim
import GoSem.ClaimJoined
import GoSem.ClaimMapViews
import Derived.JoinedTies
import Derived.KernelRfl
namespace Go.Proofs.YtkgindnlllhioaaDoor
/- THE CELL 'sum', in the pinned program and in every row, IS THE sha256 OF THE DUMP (.gsa) THAT YtkgindnlllhioaaDoorProg.lean LOADS. Nothing in Lean hashes anything: it is a label: what it is worth is what the hold of that sum in a sandbox is worth. -/
noncomputable def Tryd.pinned : Pinned := { name := "ytkgindnlllhioaadoor", sum := "6f7edb427ce60c15913e6977ad8b1c0be00b62cae5499012684f2ac07dd0777a", checked := Tryd.checked }
namespace Rows
def none {H : Type} : Left H := { results := [], args := [] }

/- WHAT THE LISTED PACKAGE-LEVEL VARIABLES READ AS WHEN THE CALL BEGINS. Each datum BY PROGRAM (the guide's laid-datum.mjs) off the statement by which the dump's own 'gosem.cut.vars' lays the variable. In a bare row this is a premise. The card (YtkgindnlllhioaaDoorCards.lean) ties it to the program's text. -/
def laid_timetable_calendar_lengths {H : Type} : DataW H := .agg [.lit (.int .i64 31), .lit (.int .i64 28), .lit (.int .i64 31), .lit (.int .i64 30), .lit (.int .i64 31), .lit (.int .i64 30), .lit (.int .i64 31), .lit (.int .i64 31), .lit (.int .i64 30), .lit (.int .i64 31), .lit (.int .i64 30), .lit (.int .i64 31)]

/-- 'timetablelaw04.CalendarDates': WHATEVER THE INPUT: true; the input reads as it did. -/
def calendarDatesSpec : ChangeSpec := { name := "calendarDates", fn := fun _ => fun
  | [d1, d2] => { results := [.lit (.bool true)], args := [d1, d2] }
  | _ => none }
def calendarDatesRow : OpenClaim := { program := "ytkgindnlllhioaadoor", sum := "6f7edb427ce60c15913e6977ad8b1c0be00b62cae5499012684f2ac07dd0777a", func := "timetable/timetablelaw04.CalendarDates", spec := "calendarDates", named := ["timetable/calendar.lengths"], apart := false, laid := [("timetable/calendar.lengths", laid_timetable_calendar_lengths)] }
def CalendarDatesSaid : Prop := calendarDatesRow.holds Tryd.pinned (OpenSpec.ofChange calendarDatesSpec)

/-- ITS FALSE NEIGHBOUR: 'it returns false'. Refute it at one input. -/
def calendarDatesWrong : ChangeSpec := { name := "calendarDates", fn := fun _ => fun
  | [d1, d2] => { results := [.lit (.bool false)], args := [d1, d2] }
  | _ => none }
def CalendarDatesWrongFalsely : Prop := calendarDatesRow.holds Tryd.pinned (OpenSpec.ofChange calendarDatesWrong)

/-- 'timetablelaw04.CalendarFollows': WHATEVER THE INPUT: true; the input reads as it did. -/
def calendarFollowsSpec : ChangeSpec := { name := "calendarFollows", fn := fun _ => fun
  | [d] => { results := [.lit (.bool true)], args := [d] }
  | _ => none }
def calendarFollowsRow : OpenClaim := { program := "ytkgindnlllhioaadoor", sum := "6f7edb427ce60c15913e6977ad8b1c0be00b62cae5499012684f2ac07dd0777a", func := "timetable/timetablelaw04.CalendarFollows", spec := "calendarFollows", named := ["timetable/calendar.lengths"], apart := false, laid := [("timetable/calendar.lengths", laid_timetable_calendar_lengths)] }
def CalendarFollowsSaid : Prop := calendarFollowsRow.holds Tryd.pinned (OpenSpec.ofChange calendarFollowsSpec)

/-- ITS FALSE NEIGHBOUR: 'it returns false'. Refute it at one input. -/
def calendarFollowsWrong : ChangeSpec := { name := "calendarFollows", fn := fun _ => fun
  | [d] => { results := [.lit (.bool false)], args := [d] }
  | _ => none }
def CalendarFollowsWrongFalsely : Prop := calendarFollowsRow.holds Tryd.pinned (OpenSpec.ofChange calendarFollowsWrong)

/-- 'timetablelaw04.CalendarTerms': WHATEVER THE INPUT: true; the input reads as it did. -/
def calendarTermsSpec : ChangeSpec := { name := "calendarTerms", fn := fun _ => fun
  | [d1, d2, d3] => { results := [.lit (.bool true)], args := [d1, d2, d3] }
  | _ => none }
def calendarTermsRow : OpenClaim := { program := "ytkgindnlllhioaadoor", sum := "6f7edb427ce60c15913e6977ad8b1c0be00b62cae5499012684f2ac07dd0777a", func := "timetable/timetablelaw04.CalendarTerms", spec := "calendarTerms", named := ["timetable/calendar.lengths"], apart := false, laid := [("timetable/calendar.lengths", laid_timetable_calendar_lengths)] }
def CalendarTermsSaid : Prop := calendarTermsRow.holds Tryd.pinned (OpenSpec.ofChange calendarTermsSpec)

/-- ITS FALSE NEIGHBOUR: 'it returns false'. Refute it at one input. -/
def calendarTermsWrong : ChangeSpec := { name := "calendarTerms", fn := fun _ => fun
  | [d1, d2, d3] => { results := [.lit (.bool false)], args := [d1, d2, d3] }
  | _ => none }
def CalendarTermsWrongFalsely : Prop := calendarTermsRow.holds Tryd.pinned (OpenSpec.ofChange calendarTermsWrong)

/-- 'timetablelaw04.CalendarTermsMade': WHATEVER THE INPUT: true; the input reads as it did. -/
def calendarTermsMadeSpec : ChangeSpec := { name := "calendarTermsMade", fn := fun _ => fun
  | [d] => { results := [.lit (.bool true)], args := [d] }
  | _ => none }
def calendarTermsMadeRow : OpenClaim := { program := "ytkgindnlllhioaadoor", sum := "6f7edb427ce60c15913e6977ad8b1c0be00b62cae5499012684f2ac07dd0777a", func := "timetable/timetablelaw04.CalendarTermsMade", spec := "calendarTermsMade", named := ["timetable/calendar.lengths"], apart := false, laid := [("timetable/calendar.lengths", laid_timetable_calendar_lengths)] }
def CalendarTermsMadeSaid : Prop := calendarTermsMadeRow.holds Tryd.pinned (OpenSpec.ofChange calendarTermsMadeSpec)

/-- ITS FALSE NEIGHBOUR: 'it returns false'. Refute it at one input. -/
def calendarTermsMadeWrong : ChangeSpec := { name := "calendarTermsMade", fn := fun _ => fun
  | [d] => { results := [.lit (.bool false)], args := [d] }
  | _ => none }
def CalendarTermsMadeWrongFalsely : Prop := calendarTermsMadeRow.holds Tryd.pinned (OpenSpec.ofChange calendarTermsMadeWrong)

/-- 'timetablelaw04.CalendarPlaces': WHATEVER THE INPUT: true; the input reads as it did. -/
def calendarPlacesSpec : ChangeSpec := { name := "calendarPlaces", fn := fun _ => fun
  | [d] => { results := [.lit (.bool true)], args := [d] }
  | _ => none }
def calendarPlacesRow : OpenClaim := { program := "ytkgindnlllhioaadoor", sum := "6f7edb427ce60c15913e6977ad8b1c0be00b62cae5499012684f2ac07dd0777a", func := "timetable/timetablelaw04.CalendarPlaces", spec := "calendarPlaces", named := ["timetable/calendar.lengths"], apart := false, laid := [("timetable/calendar.lengths", laid_timetable_calendar_lengths)] }
def CalendarPlacesSaid : Prop := calendarPlacesRow.holds Tryd.pinned (OpenSpec.ofChange calendarPlacesSpec)

/-- ITS FALSE NEIGHBOUR: 'it returns false'. Refute it at one input. -/
def calendarPlacesWrong : ChangeSpec := { name := "calendarPlaces", fn := fun _ => fun
  | [d] => { results := [.lit (.bool false)], args := [d] }
  | _ => none }
def CalendarPlacesWrongFalsely : Prop := calendarPlacesRow.holds Tryd.pinned (OpenSpec.ofChange calendarPlacesWrong)

/- THE SECOND FORM. 'bulk': how many values and letters a reading holds, each counted each time it is reached (what is shared counts as often as it is met; a slice's spare places count too). A statement '..UptoSaid' is the law's where the arguments, and the package variables that the reading takes, are together of bulk at most 1048576: NARROWER than '..Said'. Prove '..Said' where nothing that the law and all that it calls make is longer than what came in: it says more and counts as full. Else prove '..UptoSaid'. A law counts once. -/
mutual
def uptoBulk {H : Type} : DataW H → Nat
  | .lit (.string bytes) => bytes.length + 1
  | .lit _ => 1
  | .nil => 1
  | .ptr d => uptoBulk d + 1
  | .slice elems spare => uptoBulkAll elems + uptoBulkAll spare + 1
  | .agg parts => uptoBulkAll parts + 1
  | .iface _ d => uptoBulk d + 1
  | .map entries => uptoBulkEntries entries + 1
  | .held _ => 1
def uptoBulkAll {H : Type} : List (DataW H) → Nat
  | [] => 0
  | d :: r => uptoBulk d + uptoBulkAll r
def uptoBulkEntries {H : Type} : List (Lit × DataW H) → Nat
  | [] => 0
  | x :: r => uptoBulkEntry x + uptoBulkEntries r
def uptoBulkEntry {H : Type} : Lit × DataW H → Nat
  | (.string bytes, d) => bytes.length + uptoBulk d + 1
  | (_, d) => uptoBulk d + 1
 end
def uptoSmall : (H : Type) → List (DataW H) → Bool := fun _ ds => decide (uptoBulkAll ds ≤ 1048576)
def OpenSpec.upto (s : _root_.Go.ChangeSpec) : _root_.Go.OpenSpec := { _root_.Go.OpenSpec.ofChange s with cond := some uptoSmall }

/-- 'timetablelaw04.CalendarDates', WHERE WHAT IT READS IS OF BULK AT MOST 1048576: true; the input reads as it did. -/
def calendarDatesUptoRow : OpenClaim := { program := "ytkgindnlllhioaadoor", sum := "6f7edb427ce60c15913e6977ad8b1c0be00b62cae5499012684f2ac07dd0777a", func := "timetable/timetablelaw04.CalendarDates", spec := "calendarDates", named := ["timetable/calendar.lengths"], apart := false, laid := [("timetable/calendar.lengths", laid_timetable_calendar_lengths)], narrowed := true }
def CalendarDatesUptoSaid : Prop := calendarDatesUptoRow.holds Tryd.pinned (OpenSpec.upto calendarDatesSpec)

/-- 'timetablelaw04.CalendarFollows', WHERE WHAT IT READS IS OF BULK AT MOST 1048576: true; the input reads as it did. -/
def calendarFollowsUptoRow : OpenClaim := { program := "ytkgindnlllhioaadoor", sum := "6f7edb427ce60c15913e6977ad8b1c0be00b62cae5499012684f2ac07dd0777a", func := "timetable/timetablelaw04.CalendarFollows", spec := "calendarFollows", named := ["timetable/calendar.lengths"], apart := false, laid := [("timetable/calendar.lengths", laid_timetable_calendar_lengths)], narrowed := true }
def CalendarFollowsUptoSaid : Prop := calendarFollowsUptoRow.holds Tryd.pinned (OpenSpec.upto calendarFollowsSpec)

/-- 'timetablelaw04.CalendarTerms', WHERE WHAT IT READS IS OF BULK AT MOST 1048576: true; the input reads as it did. -/
def calendarTermsUptoRow : OpenClaim := { program := "ytkgindnlllhioaadoor", sum := "6f7edb427ce60c15913e6977ad8b1c0be00b62cae5499012684f2ac07dd0777a", func := "timetable/timetablelaw04.CalendarTerms", spec := "calendarTerms", named := ["timetable/calendar.lengths"], apart := false, laid := [("timetable/calendar.lengths", laid_timetable_calendar_lengths)], narrowed := true }
def CalendarTermsUptoSaid : Prop := calendarTermsUptoRow.holds Tryd.pinned (OpenSpec.upto calendarTermsSpec)

/-- 'timetablelaw04.CalendarTermsMade', WHERE WHAT IT READS IS OF BULK AT MOST 1048576: true; the input reads as it did. -/
def calendarTermsMadeUptoRow : OpenClaim := { program := "ytkgindnlllhioaadoor", sum := "6f7edb427ce60c15913e6977ad8b1c0be00b62cae5499012684f2ac07dd0777a", func := "timetable/timetablelaw04.CalendarTermsMade", spec := "calendarTermsMade", named := ["timetable/calendar.lengths"], apart := false, laid := [("timetable/calendar.lengths", laid_timetable_calendar_lengths)], narrowed := true }
def CalendarTermsMadeUptoSaid : Prop := calendarTermsMadeUptoRow.holds Tryd.pinned (OpenSpec.upto calendarTermsMadeSpec)

/-- 'timetablelaw04.CalendarPlaces', WHERE WHAT IT READS IS OF BULK AT MOST 1048576: true; the input reads as it did. -/
def calendarPlacesUptoRow : OpenClaim := { program := "ytkgindnlllhioaadoor", sum := "6f7edb427ce60c15913e6977ad8b1c0be00b62cae5499012684f2ac07dd0777a", func := "timetable/timetablelaw04.CalendarPlaces", spec := "calendarPlaces", named := ["timetable/calendar.lengths"], apart := false, laid := [("timetable/calendar.lengths", laid_timetable_calendar_lengths)], narrowed := true }
def CalendarPlacesUptoSaid : Prop := calendarPlacesUptoRow.holds Tryd.pinned (OpenSpec.upto calendarPlacesSpec)

end Rows
end Go.Proofs.YtkgindnlllhioaaDoor
