/-
  What the library's variables hold, and a code taken apart: the program's divide. Conditions: the library's variables hold what its text lays; the string has at most 16 bytes.
  How many codes a range has: the program's rangeLength. Conditions: the library's variables hold what its text lays; both strings have at most 16 bytes.
  The codes of a range: the program's expand. Conditions: the library's variables hold what its text lays; the code has at most 16 bytes; at most 64 codes.
  The first error of a list of codes: the program's check. Conditions: the strings lie in memory.
-/
import Derived.Test.YtnpfmoalgphkcaaGreatDoorVA14
import Derived.Shelf.Strings.SlTrimAscii
import Derived.Lib.AtoiErrMem
import Derived.Handy
import Derived.Laws.ResultCell
import Derived.RegionTactic
import Derived.Lib.Repeat
import Derived.Deep.RegionHeld3
import Derived.Laws.OwnMore
import Derived.Lib.SlicesS
set_option linter.unusedVariables false
namespace Go.Proofs.YtnpfmoalgphkcaaGreatDoor.S3
open Go Go.Proofs Go.RowKit Go.Lib

/-- The library's variables. -/
structure Env (w : World) : Prop where
  m : ∃ m, w.cell? ⟨5, 0, none⟩ = some (.int .i64 m)
  ev : ∃ ev, w.cell? ⟨9, 0, none⟩ = some ev ∧ (ev = .nilIface ∨ ∃ te pe, ev = .iface te pe)
  tab : Lib.TabIs Tryz.prog w "internal/strconv.uint64pow10" .u64 Lib.pow10Tab
  size : 9 < w.heap.size
theorem gTab : Tryz.prog.globalNamed "internal/strconv.uint64pow10" = some 8 := by kernel_rfl
theorem var_below {B g : Nat} {W W' : World} {n : String} {cs : Array Value} (h : Below B W W') (hg : Tryz.prog.globalNamed n = some g) (hgB : g < B) (hv : W.var? Tryz.prog n = some cs) : W'.var? Tryz.prog n = some cs := by
  unfold World.var? at hv ⊢
  simp only [hg, Option.bind_some] at hv ⊢
  rw [h.block g hgB]
  exact hv
theorem Env.below {w w' : World} (h : Env w) (hb : Below w.heap.size w w') : Env w' := by
  obtain ⟨m, hm⟩ := h.m
  obtain ⟨ev, he, hk⟩ := h.ev
  have hs := h.size
  exact ⟨⟨m, (hb.cell (p := ⟨5, 0, none⟩) (by show 5 < w.heap.size; omega)).trans hm⟩, ⟨ev, (hb.cell (p := ⟨9, 0, none⟩) (by show 9 < w.heap.size; omega)).trans he, hk⟩,
    var_below hb gTab (by omega) h.tab, Nat.le_trans hs hb.size⟩

theorem results_ct {fn : Func} {p u : Tmp} {A : TypeId} (h : fn.results = #[.cell p A, .tmp u]) (tmps : Array Value) (P : Program) (w : World) (a : Addr) (va vc : Value)
    (ha : tmps.getD p undef = .pointer (some a)) (hc : tmps.getD u undef = vc)
    (hla : (loadVar A a).run P w = .ok va w) : (results fn tmps).run P w = .ok (.tuple #[va, vc]) w := by
  rw [Array.getD_eq_getD_getElem?] at ha hc
  simp only [results, h]
  simp [Result.andThen, ha, hc, hla, asAddr]
/-- The last number, 0 if there is none. -/
def numL (s : Str) : Nat := numN (lastS s)
def hasL (s : Str) : Bool := !(lastS s).isEmpty
end Go.Proofs.YtnpfmoalgphkcaaGreatDoor.S3

set_option linter.unusedVariables false
namespace Go.Proofs.YtnpfmoalgphkcaaGreatDoor.S3
open Go Go.Proofs Go.RowKit Go.Lib

/-- How many codes a range has, 0 if it is none. -/
def rangeN (a b : Str) : Nat := if hasL a = true ∧ hasL b = true ∧ numL a ≤ numL b ∧ preS a ++ wrS (numL b) (lastS a).length = b then numL b - numL a + 1 else 0
end Go.Proofs.YtnpfmoalgphkcaaGreatDoor.S3

set_option linter.unusedVariables false
namespace Go.Proofs.YtnpfmoalgphkcaaGreatDoor.S3
open Go Go.Proofs Go.RowKit Go.Lib

def nthS (s : Str) (j : Nat) : Str := preS s ++ wrS (numL s + j) (lastS s).length
/-- The first codes of a range. -/
def expandL (s : Str) (n : Nat) : List Str := s :: (List.range (n - 1)).map (fun j => nthS s (j + 1))
theorem ba_lst (s : ByteArray) : (⟨(lst s).toArray⟩ : ByteArray) = s := by cases s; rfl
theorem row_kind9 {w : World} {B e z n : Nat} {v : Value} {xs : List Value} (h : w.ownsRow B e z v n xs) (g : Nat) (hg : v.ownBlock = some g) : ∃ c, w.heap[g]? = some (.cells c e (0, 0)) := by
  rcases h.2 with ⟨rfl, _⟩ | ⟨k, cap, cur, rfl, _, hh, _⟩
  · simp [Value.ownBlock] at hg
  · simp only [Value.ownBlock, Option.some.injEq] at hg
    subst hg
    exact ⟨cur, hh⟩
/-- What hands back a list of strings of its own. -/
def RowOut (l : List Str) (w : World) (e : Ending) (w' : World) : Prop := (∃ v, e = .returned v ∧ StrRow w' w.heap.size v l) ∧ Below w.heap.size w w'
end Go.Proofs.YtnpfmoalgphkcaaGreatDoor.S3

set_option linter.unusedVariables false
namespace Go.Proofs.YtnpfmoalgphkcaaGreatDoor.S3
open Go Go.Proofs Go.RowKit Go.Lib

def checkGo : List Str → List Str → Int
  | _, [] => 0
  | seen, c :: r => if validC c = false then 10 else if c ∈ seen then 11 else checkGo (seen ++ [c]) r
/-- The first error of a list of codes. -/
def checkM (l : List Str) : Int := if 64 < l.length then 2 else checkGo [] l
def ba (s : Str) : ByteArray := ⟨s.toArray⟩
end Go.Proofs.YtnpfmoalgphkcaaGreatDoor.S3

