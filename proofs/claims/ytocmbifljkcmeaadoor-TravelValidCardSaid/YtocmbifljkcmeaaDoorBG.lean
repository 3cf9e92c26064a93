/-
  Natural order: the program's compareNumbers, compareElements. Conditions: the strings fit into memory.
  Natural order: the program's Compare. Conditions: the strings fit into memory.
-/
import Derived.Test.YtocmbifljkcmeaaDoorBC
import Derived.Test.YtocmbifljkcmeaaDoorShelf
set_option linter.unusedVariables false
namespace Go.Proofs.YtocmbifljkcmeaaDoor.S3
open Go Go.Proofs Go.RowKit Go.Lib

def orI (a b : Int) : Int := if a = 0 then b else a
theorem compareInt_eq (x y : Int) : Lib.compareInt x y = cmpI x y := rfl
theorem cmpE_nums' (a b : Str) (ha : numS a = true) (hb : numS b = true) : cmpE a b = orI (cmpI ((bareS a).length : Int) ((bareS b).length : Int)) (compareBytes (bareS a) (bareS b)) := cmpE_nums a b ha hb

theorem numS_eq (a : ByteArray) (h : 0 < a.size) : numS (lst a) = dg (a[0]'h) := by
  have e : (lst a)[0]? = some (a[0]'h) := by
    have h' := h
    rw [Lib.size_eq] at h'
    rw [List.getElem?_eq_getElem h']
    rfl
  cases hl : lst a with
  | nil => rw [hl] at e; simp at e
  | cons c r =>
    rw [hl] at e
    have : c = a[0]'h := by simpa using e
    rw [← this]
    rfl
end Go.Proofs.YtocmbifljkcmeaaDoor.S3

set_option linter.unusedVariables false
namespace Go.Proofs.YtocmbifljkcmeaaDoor.S3
open Go Go.Proofs Go.RowKit Go.Lib

theorem str_no {s : ByteArray} (h : 0 < s.size) : (s.toList == []) = false ∧ (!s.toList.isEmpty) = true ∧ (s.toList != []) = true ∧ ¬ s.toList = [] := by
  have hne : s.toList ≠ [] := fun e => by
    rw [Lib.toList_data] at e
    rw [Lib.size_eq, e] at h
    simp at h
  refine ⟨by simpa using hne, by simpa using hne, by simpa using hne, hne⟩
theorem str_yes {s : ByteArray} (h : ¬ 0 < s.size) : (s.toList == []) = true ∧ (!s.toList.isEmpty) = false ∧ (s.toList != []) = false ∧ s.toList = [] := by
  have e : s.toList = [] := by
    rw [Lib.toList_data]
    exact List.eq_nil_of_length_eq_zero (by rw [← Lib.size_eq]; omega)
  refine ⟨by simpa using e, by simp [e], by simp [e], e⟩
theorem lst_ne {s : ByteArray} (h : 0 < s.size) : lst s ≠ [] := fun e => by
  have h' : 0 < (lst s).length := by rw [← Lib.size_eq]; exact h
  rw [e] at h'
  simp at h'
theorem lst_nil {s : ByteArray} (h : ¬ 0 < s.size) : lst s = [] := List.eq_nil_of_length_eq_zero (by rw [← Lib.size_eq]; omega)
theorem lex_end (X Y : ByteArray) (h : ¬ 0 < X.size ∨ ¬ 0 < Y.size) : lexC cmpE (elems (lst X)) (elems (lst Y)) = cmpI (X.size : Int) (Y.size : Int) := by
  by_cases hx : 0 < X.size
  · have hy : ¬ 0 < Y.size := h.resolve_left (fun e => e hx)
    rw [lst_nil hy, elems_cons _ (lst_ne hx)]
    unfold cmpI
    rw [if_neg (by omega), if_pos (by omega)]
    rfl
  · rw [lst_nil hx]
    by_cases hy : 0 < Y.size
    · rw [elems_cons _ (lst_ne hy)]
      unfold cmpI
      rw [if_pos (by omega)]
      rfl
    · rw [lst_nil hy]
      unfold cmpI
      rw [if_neg (by omega), if_neg (by omega)]
      rfl
theorem lex_step (X Y : Str) (hx : X ≠ []) (hy : Y ≠ []) : lexC cmpE (elems X) (elems Y) = if cmpE (X.take (elemN X)) (Y.take (elemN Y)) = 0 then lexC cmpE (elems (X.drop (elemN X))) (elems (Y.drop (elemN Y))) else cmpE (X.take (elemN X)) (Y.take (elemN Y)) := by
  rw [elems_cons X hx, elems_cons Y hy]
  rfl
theorem cmpM_or (a b : Str) : cmpM a b = orI (lexC cmpE (elems a) (elems b)) (compareBytes a b) := rfl
def strSize : Value → Nat
  | .string s => s.size
  | _ => 0

end Go.Proofs.YtocmbifljkcmeaaDoor.S3

