/-
  The text of records, as a function of the records. No program, no conditions.
-/
import Derived.Test.YtcpkefjijinhiaaDoorRefValid
set_option linter.unusedVariables false
namespace Go.Proofs.YtcpkefjijinhiaaDoor
open Go Go.Proofs Go.RowKit Go.Lib

def escF (Q : UInt8) (q : Bool) (s : Str) : Str := s.flatMap fun c => if (q && c.toNat == Q.toNat) = true then [c, Q] else [c]
def markF (Q : UInt8) (q : Bool) : Str := if q = true then [Q] else []
def sepF (D : UInt8) (k : Nat) : Str := if k = 0 then [] else [D]
/-- A field: behind a delimiter, quoted or not. -/
def fieldF (D Q : UInt8) (k : Nat) (only : Bool) (s : Str) : Str :=
  sepF D k ++ (markF Q (needB D Q s (k == 0) only) ++ (escF Q (needB D Q s (k == 0) only) s ++ markF Q (needB D Q s (k == 0) only)))
def rowF (D Q : UInt8) (only : Bool) : Nat → List Str → Str
  | _, [] => []
  | k, s :: r => fieldF D Q k only s ++ rowF D Q only (k + 1) r
def fmtGo (D Q : UInt8) : Str → List (List Str) → Str × Int
  | acc, [] => if 65536 < acc.length then ([], 2) else (acc, 0)
  | acc, l :: r => if l.length = 0 then ([], 16) else if 12 < l.length then ([], 2) else fmtGo D Q (acc ++ (rowF D Q (l.length == 1) 0 l ++ [10])) r
/-- What Format returns. -/
def fmtM (D Q : UInt8) (ls : List (List Str)) : Str × Int := if validB D Q = true then (if 400 < ls.length then ([], 2) else fmtGo D Q [] ls) else ([], 1)

/-- At most so many bytes. -/
def wgtF (s : Str) : Nat := 2 * s.length + 3
def wgtRow : List Str → Nat
  | [] => 1
  | s :: r => wgtF s + wgtRow r
def wgtRows : List (List Str) → Nat
  | [] => 0
  | l :: r => wgtRow l + wgtRows r

theorem escF_cons (Q : UInt8) (q : Bool) (c : UInt8) (s : Str) : escF Q q (c :: s) = (if (q && c.toNat == Q.toNat) = true then [c, Q] else [c]) ++ escF Q q s := by simp [escF]
theorem rowF_drop (D Q : UInt8) (only : Bool) (l : List Str) (k : Nat) (hk : k < l.length) : rowF D Q only k (l.drop k) = fieldF D Q k only l[k] ++ rowF D Q only (k + 1) (l.drop (k + 1)) := by
  rw [List.drop_eq_getElem_cons hk]
  rfl
theorem fmtGo_drop (D Q : UInt8) (acc : Str) (ls : List (List Str)) (i : Nat) (hi : i < ls.length) :
    fmtGo D Q acc (ls.drop i) = if ls[i].length = 0 then ([], 16) else if 12 < ls[i].length then ([], 2) else fmtGo D Q (acc ++ (rowF D Q (ls[i].length == 1) 0 ls[i] ++ [10])) (ls.drop (i + 1)) := by
  rw [List.drop_eq_getElem_cons hi]
  rfl
theorem wgtRow_drop (l : List Str) (k : Nat) (hk : k < l.length) : wgtRow (l.drop k) = wgtF l[k] + wgtRow (l.drop (k + 1)) := by
  rw [List.drop_eq_getElem_cons hk]
  rfl
theorem wgtRows_drop (ls : List (List Str)) (i : Nat) (hi : i < ls.length) : wgtRows (ls.drop i) = wgtRow ls[i] + wgtRows (ls.drop (i + 1)) := by
  rw [List.drop_eq_getElem_cons hi]
  rfl
theorem sep_len (D : UInt8) (k : Nat) : (sepF D k).length ≤ 1 := by
  unfold sepF
  split <;> simp
theorem mark_len (Q : UInt8) (q : Bool) : (markF Q q).length ≤ 1 := by
  unfold markF
  split <;> simp
end Go.Proofs.YtcpkefjijinhiaaDoor
