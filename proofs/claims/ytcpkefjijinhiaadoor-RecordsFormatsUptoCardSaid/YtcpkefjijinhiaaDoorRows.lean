/-
  NARROWER THAN 'FOR EVERY INPUT', by the rows' own cells (each row's printed sentence says how): RecordsParses: laid · RecordsParsesMade: laid · RecordsFormats: laid · RecordsReturns: laid · RecordsPlaces: laid · RecordsLimits: laid.
  DERIVED. THE GIVEN ROWS OF THIS SEAT. 6 by the template 'for every input the law returns true; each argument reads behind the call as it read before'; 0 by the template 'total and deterministic' (their statements: YtcpkefjijinhiaaDoorTotals.lean).
  GIVEN WITH THE SEED: the statements are not yours to turn. If you find one false, say at which input.
  Laid BY PROGRAM, IN A SANDBOX (cutbox-rows.mjs): the forced cells as the released guide's own fill.sh prints them over the translation 5dbb9716555e4b4b… (all of the seat's roots in one cut). By AI agents, Wed Nov 11 2026. No macro, syntax, notation, axiom, sorry.
-/
import Derived.Test.YtcpkefjijinhiaaDoorChecked
import GoSem.PinnedTables
import GoSem.Claim
import GoSem.ClaimJoined
import GoSem.ClaimMapViews
import Derived.JoinedTies
import Derived.KernelRfl
namespace Go.Proofs.YtcpkefjijinhiaaDoor
/- THE CELL 'sum', in the pinned program and in every row, IS THE sha256 OF THE DUMP (.gsa) THAT YtcpkefjijinhiaaDoorProg.lean LOADS. Nothing in Lean hashes anything: it is a label: what it is worth is what the hold of that sum in a sandbox is worth. -/
noncomputable def Tryd.pinned : Pinned := { name := "ytcpkefjijinhiaadoor", sum := "5dbb9716555e4b4b015a5dedb6a9fa5eb6f8d7aa71900da023d03ce6a9003d4e", checked := Tryd.checked }
namespace Rows
def none {H : Type} : Left H := { results := [], args := [] }

/- WHAT THE LISTED PACKAGE-LEVEL VARIABLES READ AS WHEN THE CALL BEGINS. Each datum BY PROGRAM (the guide's laid-datum.mjs) off the statement by which the dump's own 'gosem.cut.vars' lays the variable. In a bare row this is a premise. The card (YtcpkefjijinhiaaDoorCards.lean) ties it to the program's text. -/
def laid_unicode_utf8_acceptRanges {H : Type} : DataW H := .agg [.agg [.lit (.int .u8 128), .lit (.int .u8 191)], .agg [.lit (.int .u8 160), .lit (.int .u8 191)], .agg [.lit (.int .u8 128), .lit (.int .u8 159)], .agg [.lit (.int .u8 144), .lit (.int .u8 191)], .agg [.lit (.int .u8 128), .lit (.int .u8 143)], .agg [.lit (.int .u8 0), .lit (.int .u8 0)], .agg [.lit (.int .u8 0), .lit (.int .u8 0)], .agg [.lit (.int .u8 0), .lit (.int .u8 0)], .agg [.lit (.int .u8 0), .lit (.int .u8 0)], .agg [.lit (.int .u8 0), .lit (.int .u8 0)], .agg [.lit (.int .u8 0), .lit (.int .u8 0)], .agg [.lit (.int .u8 0), .lit (.int .u8 0)], .agg [.lit (.int .u8 0), .lit (.int .u8 0)], .agg [.lit (.int .u8 0), .lit (.int .u8 0)], .agg [.lit (.int .u8 0), .lit (.int .u8 0)], .agg [.lit (.int .u8 0), .lit (.int .u8 0)]]
/-- One of Go's own tables, pinned by name: the form's constant. -/
def laid_unicode_utf8_first : DataW Unit := Go.Pinned.utf8First

/-- 'timetablelaw02.RecordsParses': WHATEVER THE INPUT: true; the input reads as it did. -/
def recordsParsesSpec : ChangeSpec := { name := "recordsParses", fn := fun _ => fun
  | [d1, d2] => { results := [.lit (.bool true)], args := [d1, d2] }
  | _ => none }
def recordsParsesRow : OpenClaim := { program := "ytcpkefjijinhiaadoor", sum := "5dbb9716555e4b4b015a5dedb6a9fa5eb6f8d7aa71900da023d03ce6a9003d4e", func := "timetable/timetablelaw02.RecordsParses", spec := "recordsParses", inPlace := ["internal/bytealg.IndexByteString", "internal/bytealg.IndexString", "internal/bytealg.CountString", "internal/abi.NoEscape", "internal/bytealg.MakeNoZero"], unfollowed := true, recurses := true, named := ["internal/bytealg.MaxLen", "unicode/utf8.first", "unicode/utf8.acceptRanges"], apart := false, laid := [("unicode/utf8.acceptRanges", laid_unicode_utf8_acceptRanges), ("unicode/utf8.first", laid_unicode_utf8_first)] }
def RecordsParsesSaid : Prop := recordsParsesRow.holds Tryd.pinned (OpenSpec.ofChange recordsParsesSpec)

/-- ITS FALSE NEIGHBOUR: 'it returns false'. Refute it at one input. -/
def recordsParsesWrong : ChangeSpec := { name := "recordsParses", fn := fun _ => fun
  | [d1, d2] => { results := [.lit (.bool false)], args := [d1, d2] }
  | _ => none }
def RecordsParsesWrongFalsely : Prop := recordsParsesRow.holds Tryd.pinned (OpenSpec.ofChange recordsParsesWrong)

/-- 'timetablelaw02.RecordsParsesMade': WHATEVER THE INPUT: true; the input reads as it did. -/
def recordsParsesMadeSpec : ChangeSpec := { name := "recordsParsesMade", fn := fun _ => fun
  | [d] => { results := [.lit (.bool true)], args := [d] }
  | _ => none }
def recordsParsesMadeRow : OpenClaim := { program := "ytcpkefjijinhiaadoor", sum := "5dbb9716555e4b4b015a5dedb6a9fa5eb6f8d7aa71900da023d03ce6a9003d4e", func := "timetable/timetablelaw02.RecordsParsesMade", spec := "recordsParsesMade", inPlace := ["internal/bytealg.IndexByteString", "internal/bytealg.IndexString", "internal/bytealg.CountString", "internal/abi.NoEscape", "internal/bytealg.MakeNoZero"], unfollowed := true, recurses := true, named := ["internal/bytealg.MaxLen", "unicode/utf8.first", "unicode/utf8.acceptRanges"], apart := false, laid := [("unicode/utf8.acceptRanges", laid_unicode_utf8_acceptRanges), ("unicode/utf8.first", laid_unicode_utf8_first)] }
def RecordsParsesMadeSaid : Prop := recordsParsesMadeRow.holds Tryd.pinned (OpenSpec.ofChange recordsParsesMadeSpec)

/-- ITS FALSE NEIGHBOUR: 'it returns false'. Refute it at one input. -/
def recordsParsesMadeWrong : ChangeSpec := { name := "recordsParsesMade", fn := fun _ => fun
  | [d] => { results := [.lit (.bool false)], args := [d] }
  | _ => none }
def RecordsParsesMadeWrongFalsely : Prop := recordsParsesMadeRow.holds Tryd.pinned (OpenSpec.ofChange recordsParsesMadeWrong)

/-- 'timetablelaw02.RecordsFormats': WHATEVER THE INPUT: true; the input reads as it did. -/
def recordsFormatsSpec : ChangeSpec := { name := "recordsFormats", fn := fun _ => fun
  | [d1, d2, d3] => { results := [.lit (.bool true)], args := [d1, d2, d3] }
  | _ => none }
def recordsFormatsRow : OpenClaim := { program := "ytcpkefjijinhiaadoor", sum := "5dbb9716555e4b4b015a5dedb6a9fa5eb6f8d7aa71900da023d03ce6a9003d4e", func := "timetable/timetablelaw02.RecordsFormats", spec := "recordsFormats", inPlace := ["internal/bytealg.IndexByteString", "internal/bytealg.IndexString", "internal/bytealg.CountString", "internal/abi.NoEscape", "internal/bytealg.MakeNoZero"], unfollowed := true, recurses := true, named := ["internal/bytealg.MaxLen", "unicode/utf8.first", "unicode/utf8.acceptRanges"], apart := false, laid := [("unicode/utf8.acceptRanges", laid_unicode_utf8_acceptRanges), ("unicode/utf8.first", laid_unicode_utf8_first)] }
def RecordsFormatsSaid : Prop := recordsFormatsRow.holds Tryd.pinned (OpenSpec.ofChange recordsFormatsSpec)

/-- ITS FALSE NEIGHBOUR: 'it returns false'. Refute it at one input. -/
def recordsFormatsWrong : ChangeSpec := { name := "recordsFormats", fn := fun _ => fun
  | [d1, d2, d3] => { results := [.lit (.bool false)], args := [d1, d2, d3] }
  | _ => none }
def RecordsFormatsWrongFalsely : Prop := recordsFormatsRow.holds Tryd.pinned (OpenSpec.ofChange recordsFormatsWrong)

/-- 'timetablelaw02.RecordsReturns': WHATEVER THE INPUT: true; the input reads as it did. -/
def recordsReturnsSpec : ChangeSpec := { name := "recordsReturns", fn := fun _ => fun
  | [d] => { results := [.lit (.bool true)], args := [d] }
  | _ => none }
def recordsReturnsRow : OpenClaim := { program := "ytcpkefjijinhiaadoor", sum := "5dbb9716555e4b4b015a5dedb6a9fa5eb6f8d7aa71900da023d03ce6a9003d4e", func := "timetable/timetablelaw02.RecordsReturns", spec := "recordsReturns", inPlace := ["internal/bytealg.IndexByteString", "internal/bytealg.IndexString", "internal/bytealg.CountString", "internal/abi.NoEscape", "internal/bytealg.MakeNoZero"], unfollowed := true, recurses := true, named := ["internal/bytealg.MaxLen", "unicode/utf8.first", "unicode/utf8.acceptRanges"], apart := false, laid := [("unicode/utf8.acceptRanges", laid_unicode_utf8_acceptRanges), ("unicode/utf8.first", laid_unicode_utf8_first)] }
def RecordsReturnsSaid : Prop := recordsReturnsRow.holds Tryd.pinned (OpenSpec.ofChange recordsReturnsSpec)

/-- ITS FALSE NEIGHBOUR: 'it returns false'. Refute it at one input. -/
def recordsReturnsWrong : ChangeSpec := { name := "recordsReturns", fn := fun _ => fun
  | [d] => { results := [.lit (.bool false)], args := [d] }
  | _ => none }
def RecordsReturnsWrongFalsely : Prop := recordsReturnsRow.holds Tryd.pinned (OpenSpec.ofChange recordsReturnsWrong)

/-- 'timetablelaw02.RecordsPlaces': WHATEVER THE INPUT: true; the input reads as it did. -/
def recordsPlacesSpec : ChangeSpec := { name := "recordsPlaces", fn := fun _ => fun
  | [d] => { results := [.lit (.bool true)], args := [d] }
  | _ => none }
def recordsPlacesRow : OpenClaim := { program := "ytcpkefjijinhiaadoor", sum := "5dbb9716555e4b4b015a5dedb6a9fa5eb6f8d7aa71900da023d03ce6a9003d4e", func := "timetable/timetablelaw02.RecordsPlaces", spec := "recordsPlaces", inPlace := ["internal/bytealg.IndexByteString", "internal/bytealg.IndexString", "internal/bytealg.CountString", "internal/abi.NoEscape", "internal/bytealg.MakeNoZero"], unfollowed := true, recurses := true, named := ["internal/bytealg.MaxLen", "unicode/utf8.first", "unicode/utf8.acceptRanges"], apart := false, laid := [("unicode/utf8.acceptRanges", laid_unicode_utf8_acceptRanges), ("unicode/utf8.first", laid_unicode_utf8_first)] }
def RecordsPlacesSaid : Prop := recordsPlacesRow.holds Tryd.pinned (OpenSpec.ofChange recordsPlacesSpec)

/-- ITS FALSE NEIGHBOUR: 'it returns false'. Refute it at one input. -/
def recordsPlacesWrong : ChangeSpec := { name := "recordsPlaces", fn := fun _ => fun
  | [d] => { results := [.lit (.bool false)], args := [d] }
  | _ => none }
def RecordsPlacesWrongFalsely : Prop := recordsPlacesRow.holds Tryd.pinned (OpenSpec.ofChange recordsPlacesWrong)

/-- 'timetablelaw02.RecordsLimits': WHATEVER THE INPUT: true; the input reads as it did. -/
def recordsLimitsSpec : ChangeSpec := { name := "recordsLimits", fn := fun _ => fun
  | [d1, d2] => { results := [.lit (.bool true)], args := [d1, d2] }
  | _ => none }
def recordsLimitsRow : OpenClaim := { program := "ytcpkefjijinhiaadoor", sum := "5dbb9716555e4b4b015a5dedb6a9fa5eb6f8d7aa71900da023d03ce6a9003d4e", func := "timetable/timetablelaw02.RecordsLimits", spec := "recordsLimits", inPlace := ["internal/bytealg.IndexByteString", "internal/bytealg.IndexString", "internal/bytealg.CountString", "internal/abi.NoEscape", "internal/bytealg.MakeNoZero"], unfollowed := true, recurses := true, named := ["internal/bytealg.MaxLen", "unicode/utf8.first", "unicode/utf8.acceptRanges"], apart := false, laid := [("unicode/utf8.acceptRanges", laid_unicode_utf8_acceptRanges), ("unicode/utf8.first", laid_unicode_utf8_first)] }
def RecordsLimitsSaid : Prop := recordsLimitsRow.holds Tryd.pinned (OpenSpec.ofChange recordsLimitsSpec)

/-- ITS FALSE NEIGHBOUR: 'it returns false'. Refute it at one input. -/
def recordsLimitsWrong : ChangeSpec := { name := "recordsLimits", fn := fun _ => fun
  | [d1, d2] => { results := [.lit (.bool false)], args := [d1, d2] }
  | _ => none }
def RecordsLimitsWrongFalsely : Prop := recordsLimitsRow.holds Tryd.pinned (OpenSpec.ofChange recordsLimitsWrong)

/- THE SECOND FORM. 'bulk': how many values and letters a reading holds, each counted each time it is reached (what is shared counts as often as it is met; a slice's spare places count too). A statement '..UptoSaid' is the law's where the arguments, and the package variables that the reading takes, are together of bulk at most 1048576: NARROWER than '..Said'. Prove '..Said' where nothing that the law and all that it calls make is longer than what came in: it says more and counts as full. Else prove '..UptoSaid'. A law counts once. -/
mutual
def uptoBulk {H : Type} : DataW H → Nat
  | .lit (.string bytes) => bytes.length + 1
  | .lit _ => 1
  | .nil => 1
  | .ptr d => uptoBulk d + 1
  | .slice elems spare => uptoBulkAll elems + uptoBulkAll spare + 1
  | .agg parts => uptoBulkAll parts + 1
  | .iface _ d => uptoBulk d + 1
  | .map entries => uptoBulkEntries entries + 1
  | .held _ => 1
def uptoBulkAll {H : Type} : List (DataW H) → Nat
  | [] => 0
  | d :: r => uptoBulk d + uptoBulkAll r
def uptoBulkEntries {H : Type} : List (Lit × DataW H) → Nat
  | [] => 0
  | x :: r => uptoBulkEntry x + uptoBulkEntries r
def uptoBulkEntry {H : Type} : Lit × DataW H → Nat
  | (.string bytes, d) => bytes.length + uptoBulk d + 1
  | (_, d) => uptoBulk d + 1
 end
def uptoSmall : (H : Type) → List (DataW H) → Bool := fun _ ds => decide (uptoBulkAll ds ≤ 1048576)
def OpenSpec.upto (s : _root_.Go.ChangeSpec) : _root_.Go.OpenSpec := { _root_.Go.OpenSpec.ofChange s with cond := some uptoSmall }

/-- 'timetablelaw02.RecordsParses', WHERE WHAT IT READS IS OF BULK AT MOST 1048576: true; the input reads as it did. -/
def recordsParsesUptoRow : OpenClaim := { program := "ytcpkefjijinhiaadoor", sum := "5dbb9716555e4b4b015a5dedb6a9fa5eb6f8d7aa71900da023d03ce6a9003d4e", func := "timetable/timetablelaw02.RecordsParses", spec := "recordsParses", inPlace := ["internal/bytealg.IndexByteString", "internal/bytealg.IndexString", "internal/bytealg.CountString", "internal/abi.NoEscape", "internal/bytealg.MakeNoZero"], unfollowed := true, recurses := true, named := ["internal/bytealg.MaxLen", "unicode/utf8.first", "unicode/utf8.acceptRanges"], apart := false, laid := [("unicode/utf8.acceptRanges", laid_unicode_utf8_acceptRanges), ("unicode/utf8.first", laid_unicode_utf8_first)], narrowed := true }
def RecordsParsesUptoSaid : Prop := recordsParsesUptoRow.holds Tryd.pinned (OpenSpec.upto recordsParsesSpec)

/-- 'timetablelaw02.RecordsParsesMade', WHERE WHAT IT READS IS OF BULK AT MOST 1048576: true; the input reads as it did. -/
def recordsParsesMadeUptoRow : OpenClaim := { program := "ytcpkefjijinhiaadoor", sum := "5dbb9716555e4b4b015a5dedb6a9fa5eb6f8d7aa71900da023d03ce6a9003d4e", func := "timetable/timetablelaw02.RecordsParsesMade", spec := "recordsParsesMade", inPlace := ["internal/bytealg.IndexByteString", "internal/bytealg.IndexString", "internal/bytealg.CountString", "internal/abi.NoEscape", "internal/bytealg.MakeNoZero"], unfollowed := true, recurses := true, named := ["internal/bytealg.MaxLen", "unicode/utf8.first", "unicode/utf8.acceptRanges"], apart := false, laid := [("unicode/utf8.acceptRanges", laid_unicode_utf8_acceptRanges), ("unicode/utf8.first", laid_unicode_utf8_first)], narrowed := true }
def RecordsParsesMadeUptoSaid : Prop := recordsParsesMadeUptoRow.holds Tryd.pinned (OpenSpec.upto recordsParsesMadeSpec)

/-- 'timetablelaw02.RecordsFormats', WHERE WHAT IT READS IS OF BULK AT MOST 1048576: true; the input reads as it did. -/
def recordsFormatsUptoRow : OpenClaim := { program := "ytcpkefjijinhiaadoor", sum := "5dbb9716555e4b4b015a5dedb6a9fa5eb6f8d7aa71900da023d03ce6a9003d4e", func := "timetable/timetablelaw02.RecordsFormats", spec := "recordsFormats", inPlace := ["internal/bytealg.IndexByteString", "internal/bytealg.IndexString", "internal/bytealg.CountString", "internal/abi.NoEscape", "internal/bytealg.MakeNoZero"], unfollowed := true, recurses := true, named := ["internal/bytealg.MaxLen", "unicode/utf8.first", "unicode/utf8.acceptRanges"], apart := false, laid := [("unicode/utf8.acceptRanges", laid_unicode_utf8_acceptRanges), ("unicode/utf8.first", laid_unicode_utf8_first)], narrowed := true }
def RecordsFormatsUptoSaid : Prop := recordsFormatsUptoRow.holds Tryd.pinned (OpenSpec.upto recordsFormatsSpec)

/-- 'timetablelaw02.RecordsReturns', WHERE WHAT IT READS IS OF BULK AT MOST 1048576: true; the input reads as it did. -/
def recordsReturnsUptoRow : OpenClaim := { program := "ytcpkefjijinhiaadoor", sum := "5dbb9716555e4b4b015a5dedb6a9fa5eb6f8d7aa71900da023d03ce6a9003d4e", func := "timetable/timetablelaw02.RecordsReturns", spec := "recordsReturns", inPlace := ["internal/bytealg.IndexByteString", "internal/bytealg.IndexString", "internal/bytealg.CountString", "internal/abi.NoEscape", "internal/bytealg.MakeNoZero"], unfollowed := true, recurses := true, named := ["internal/bytealg.MaxLen", "unicode/utf8.first", "unicode/utf8.acceptRanges"], apart := false, laid := [("unicode/utf8.acceptRanges", laid_unicode_utf8_acceptRanges), ("unicode/utf8.first", laid_unicode_utf8_first)], narrowed := true }
def RecordsReturnsUptoSaid : Prop := recordsReturnsUptoRow.holds Tryd.pinned (OpenSpec.upto recordsReturnsSpec)

/-- 'timetablelaw02.RecordsPlaces', WHERE WHAT IT READS IS OF BULK AT MOST 1048576: true; the input reads as it did. -/
def recordsPlacesUptoRow : OpenClaim := { program := "ytcpkefjijinhiaadoor", sum := "5dbb9716555e4b4b015a5dedb6a9fa5eb6f8d7aa71900da023d03ce6a9003d4e", func := "timetable/timetablelaw02.RecordsPlaces", spec := "recordsPlaces", inPlace := ["internal/bytealg.IndexByteString", "internal/bytealg.IndexString", "internal/bytealg.CountString", "internal/abi.NoEscape", "internal/bytealg.MakeNoZero"], unfollowed := true, recurses := true, named := ["internal/bytealg.MaxLen", "unicode/utf8.first", "unicode/utf8.acceptRanges"], apart := false, laid := [("unicode/utf8.acceptRanges", laid_unicode_utf8_acceptRanges), ("unicode/utf8.first", laid_unicode_utf8_first)], narrowed := true }
def RecordsPlacesUptoSaid : Prop := recordsPlacesUptoRow.holds Tryd.pinned (OpenSpec.upto recordsPlacesSpec)

/-- 'timetablelaw02.RecordsLimits', WHERE WHAT IT READS IS OF BULK AT MOST 1048576: true; the input reads as it did. -/
def recordsLimitsUptoRow : OpenClaim := { program := "ytcpkefjijinhiaadoor", sum := "5dbb9716555e4b4b015a5dedb6a9fa5eb6f8d7aa71900da023d03ce6a9003d4e", func := "timetable/timetablelaw02.RecordsLimits", spec := "recordsLimits", inPlace := ["internal/bytealg.IndexByteString", "internal/bytealg.IndexString", "internal/bytealg.CountString", "internal/abi.NoEscape", "internal/bytealg.MakeNoZero"], unfollowed := true, recurses := true, named := ["internal/bytealg.MaxLen", "unicode/utf8.first", "unicode/utf8.acceptRanges"], apart := false, laid := [("unicode/utf8.acceptRanges", laid_unicode_utf8_acceptRanges), ("unicode/utf8.first", laid_unicode_utf8_first)], narrowed := true }
def RecordsLimitsUptoSaid : Prop := recordsLimitsUptoRow.holds Tryd.pinned (OpenSpec.upto recordsLimitsSpec)

end Rows
end Go.Proofs.YtcpkefjijinhiaaDoor
