/-
  Parse of times by the specification, for any text. Conditions: the variables hold what their text lays; the string fits into memory.
-/
import Derived.Test.YtaijbdknaeeoeaaGreatDoorG9F
import Derived.Test.YtaijbdknaeeoeaaGreatDoorG9B
import Derived.Test.YtaijbdknaeeoeaaGreatDoorG9D
import Derived.Test.YtaijbdknaeeoeaaGreatDoorG9E
set_option linter.unusedVariables false
namespace Go.Proofs.YtaijbdknaeeoeaaGreatDoor
open Go Go.Proofs Go.RowKit Go.Lib

theorem rtparse_any (d s b m N : Int) (x : ByteArray) (hz : x.size ≤ 4611686018427387904) (w : World) (hsz : 5 < w.heap.size) (hW : Words w) (hRD : RDays w) :
    Calls Tryz.prog 6 #[.agg #[.int .i64 d, .int .i64 s, .int .i64 b, .int .i64 m], .int .i64 N, .string x] w (TimeOut (timeM d s b m N (lst x)) w) := by
  by_cases hg : goodT (lst x)
  · cases h : has 45 (wSlots (lst x)) with
    | true => exact rtparse_both_g d s b m N x hz w hsz hW hRD h hg
    | false => exact rtparse_one_g d s b m N x hz w hsz hW hRD h hg
  · cases h : has 45 (wSlots (lst x)) with
    | true => exact rtparse_both_w d s b m N x hz w hsz hW hRD h hg
    | false => exact rtparse_one_w d s b m N x hz w hsz hW hRD h hg
end Go.Proofs.YtaijbdknaeeoeaaGreatDoor
