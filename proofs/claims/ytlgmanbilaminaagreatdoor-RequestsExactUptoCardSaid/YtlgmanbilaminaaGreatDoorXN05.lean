/-
  Classes as data, and in memory: slices of structs that came in, or that the call made. No program beyond the types' facts. Small general facts and definitions, .. Conditions: as stated.
-/
import Derived.Test.YtlgmanbilaminaaGreatDoorXN01
import Derived.Test.YtlgmanbilaminaaGreatDoorXN02
import Derived.Test.YtlgmanbilaminaaGreatDoorXN03
import Derived.Test.YtlgmanbilaminaaGreatDoorXN04
import Derived.Test.YtlgmanbilaminaaGreatDoorProg
import Derived.WalkKit
import Derived.WalkSpells
import Derived.WalkLawsBesides
import Derived.Lib.Hide
import Derived.Deep.QuietTactic
import Derived.BigQuiet
import Derived.Laws.Rows
import Derived.OwnWalk
import Derived.Lib.BufferWrite
import Derived.Lib.UnsafeStr
import Derived.Laws.IdiomStrings
import Derived.Laws.BytesArg
import Derived.Laws.BytesString
import Derived.Laws.OwnMore
import Derived.Lib.IndexLaws
import Derived.Lib.ItoaNum
import Derived.Lib.Atoi
import Derived.Lib.Bytealg
import Derived.Deep.RegionLaw
import Derived.Deep.RegionHeld3
import Derived.Handy
import Derived.Laws.ResultCell
import Derived.Laws.BitsAllLaws
import Derived.Laws.BitsLemmas
import Derived.IntWalk
import Derived.Laws.AppendOwn
import Derived.OneCell
import Derived.Laws.Tables
import Derived.Laws.CopyOwn
import Derived.OrdersHeld
import Derived.Deep.DeepCutAuto
import Derived.Deep.CutBlock
import Derived.Test.YtlgmanbilaminaaGreatDoorCards
import Derived.Test.YtlgmanbilaminaaGreatDoorTie
import Derived.Lib.SlTrimSet
import Derived.Shelf.Strings.Builder1
import Derived.Shelf.Strings.Builder2
import Derived.Shelf.Strings.OnBuilder
import Derived.Shelf.Strings.Trim
import Derived.Shelf.Small.Utf8
import Derived.Shelf.Small.Bits
import Derived.Shelf.Small.Strs
import Derived.Shelf.Small.Wraps
import Derived.Shelf.Strings.BuilderF
import Derived.Shelf.Strings.BuilderK
import Derived.Shelf.Strings.Builder2Cap
import Derived.Shelf.Strconv.Atoi
import Derived.Shelf.Strconv.Itoa0
import Derived.Shelf.Strconv.Itoa1
import Derived.Shelf.LaysM
import Derived.Shelf.Strconv.Itoa2
import Derived.Shelf.Strconv.Itoa3
import Derived.Shelf.Strconv.AtoiErrFast
import Derived.Shelf.Strconv.ParseIntEmpty
import Derived.Shelf.Strconv.AtoiFail
import Derived.Shelf.Strconv.Clone
import Derived.Shelf.Strconv.SyntaxError
import Derived.Shelf.LaysC
import Derived.Shelf.Strconv.ToError
import Derived.Shelf.Strconv.AtoiErr
import Derived.Shelf.Strings.Search1
import Derived.Shelf.Strings.Search2
import Derived.Shelf.Strings.Search3
import Derived.Shelf.Strings.Cut
import Derived.Shelf.Strings.Shaped
import Derived.Shelf.Strings.Prefix
import Derived.Shelf.Strings.Runes
import Derived.Shelf.Strings.AsciiSet
import Derived.Shelf.Bits.Mul64
import Derived.Shelf.Strings.Repeat
import Derived.Shelf.Unicode.DecodeSlow
import Derived.Shelf.Strings.BuilderCap
import Derived.Shelf.Slices.Turned
import Derived.Ground.Names2Prog
import Derived.Shelf.Slices.Clone
import Derived.Ground.SlsfProg
import Derived.Shelf.SlSortCmp.Insertion
import Derived.Shelf.SlSortCmp.SiftDown1
import Derived.Shelf.SlSortCmp.HeapSort1
import Derived.Shelf.SlSortCmp.Insertion1
import Derived.Shelf.SlSortCmp.Median1
import Derived.Shelf.SlSortCmp.Pivot1
import Derived.Shelf.SlSortCmp.ReverseRange1
import Derived.Shelf.SlSortCmp.PartialInsertion1
import Derived.Shelf.SlSortCmp.PartitionEqual1
import Derived.Shelf.SlSortCmp.Partition1
import Derived.Shelf.SlSortCmp.Pdq1
import Derived.Shelf.SlSortCmp.Whole1
import Derived.Shelf.SlSortCmp.NoneTotal
import Derived.Shelf.Strings.SlTrimAscii
import Derived.Lib.AtoiErrMem
import Derived.RegionTactic
import Derived.Lib.SmallJoins
import Derived.SizedLaws
import Derived.Stop.LaidErr
import Derived.Deep.DeepWitnessRowRef
import Derived.ProofKit
import Derived.OpenShut
import Derived.Deep.DeepHandedRow
import Derived.Deep.DeepLaidRun
import Derived.Deep.Slices
import Derived.Lib.LaidU8
import Derived.Shelf.Vars
import Derived.Lib.Repeat
set_option linter.unusedVariables false
namespace Go.Proofs.YtlgmanbilaminaaGreatDoor.S10
open Go Go.Proofs Go.RowKit Go.Lib Go.Proofs.YtlgmanbilaminaaGreatDoor
abbrev StartD := Int × Int
def startVs (t : StartD) : List Value := [.int .i64 t.1, .int .i64 t.2]
def startVals (l : List StartD) : List Value := l.flatMap startVs
theorem startVals_len : ∀ l : List StartD, (startVals l).length = l.length * 2
  | [] => rfl
  | t :: r => by
    have := startVals_len r
    unfold startVals at this ⊢
    rw [List.flatMap_cons, List.length_append, this, List.length_cons]
    show 2 + _ = _
    omega
theorem startVals_get : ∀ (l : List StartD) (j : Nat) (t : StartD), l[j]? = some t → ∀ (i : Nat) (v : Value), (startVs t)[i]? = some v → (startVals l)[j * 2 + i]? = some v
  | [], j, t, h, _, _, _ => by simp at h
  | a :: r, 0, t, h, i, v, hv => by
    simp at h
    subst h
    have hi : i < 2 := (List.getElem?_eq_some_iff.1 hv).1
    unfold startVals
    rw [List.flatMap_cons, List.getElem?_append_left (by show _ < 2; omega)]
    simpa using hv
  | a :: r, j + 1, t, h, i, v, hv => by
    have := startVals_get r j t (by simpa using h) i v hv
    unfold startVals at this ⊢
    rw [List.flatMap_cons, List.getElem?_append_right (by show 2 ≤ _; omega)]
    show (List.flatMap _ r)[(j + 1) * 2 + i - 2]? = _
    rw [show (j + 1) * 2 + i - 2 = j * 2 + i by omega]
    exact this
def FlatIn (w : World) (P : Nat → Prop) (A : Option Addr) (vs : List Value) : Prop := vs = [] ∨ ∃ b off, A = some ⟨b, off, none⟩ ∧ P b ∧ ∀ (i : Nat) (v : Value), vs[i]? = some v → w.cell? ⟨b, off + i, none⟩ = some v
theorem FlatIn.nil (w : World) (P : Nat → Prop) (A : Option Addr) : FlatIn w P A [] := .inl rfl
theorem FlatIn.kept {w w' : World} {P : Nat → Prop} {A : Option Addr} {l : List Value} (h : FlatIn w P A l) (hk : ∀ b, P b → w'.heap[b]? = w.heap[b]?) : FlatIn w' P A l := by
  rcases h with h | ⟨b, off, hA, hP, hc⟩
  · exact .inl h
  · exact .inr ⟨b, off, hA, hP, fun i v hv => (World.cell?_of_block (w := w) (hk b hP)).trans (hc i v hv)⟩
theorem FlatIn.mono {w : World} {P P' : Nat → Prop} {A : Option Addr} {l : List Value} (h : FlatIn w P A l) (hP : ∀ b, P b → P' b) : FlatIn w P' A l := by
  rcases h with h | ⟨b, off, hA, hb, hc⟩
  · exact .inl h
  · exact .inr ⟨b, off, hA, hP b hb, hc⟩
theorem FlatIn.below {w w' : World} {B : Nat} {A : Option Addr} {l : List Value} (h : FlatIn w (fun b => b < B) A l) (hb : Below B w w') : FlatIn w' (fun b => b < B) A l := h.kept fun b hB => hb.block b hB
theorem FlatIn.ofRow {w : World} {B e z n : Nat} {v : Value} {vs : List Value} (h : w.ownsRow B e z v n vs) (hz : vs.length = n * z) : ∃ A c, v = .slice A n c ∧ n ≤ c ∧ c ≤ 9223372036854775807 ∧ FlatIn w (fun b => B ≤ b ∧ b < w.heap.size) A vs := by
  have h' := h
  rcases h.2 with ⟨hv, h0⟩ | ⟨g, cap, cur, hv, hB, hg, h1, h2, _⟩
  · subst h0
    exact ⟨none, 0, hv, Nat.le_refl _, by omega, .inl (List.eq_nil_of_length_eq_zero (by simpa using hz))⟩
  · refine ⟨_, cap, hv, h1, by unfold maxLen at h2; omega, .inr ⟨g, 0, rfl, ⟨hB, (Array.getElem?_eq_some_iff.1 hg).1⟩, fun j v' hv' => ?_⟩⟩
    have := World.ownsRow.cells h' (g := g) (by rw [hv]; rfl) j v' hv'
    rwa [Addr.add_lit] at this
abbrev NumsIn (w : World) (P : Nat → Prop) (A : Option Addr) (l : List Int) : Prop := FlatIn w P A (intVals l)
abbrev StartsIn (w : World) (P : Nat → Prop) (A : Option Addr) (l : List StartD) : Prop := FlatIn w P A (startVals l)
theorem FlatIn.num {w : World} {P : Nat → Prop} {A : Option Addr} {l : List Int} (h : NumsIn w P A l) {k : Nat} (hk : k < l.length) : ∃ b off, A = some ⟨b, off, none⟩ ∧ P b ∧ w.cell? ⟨b, off + k, none⟩ = some (.int .i64 (l[k])) := by
  rcases h with h | ⟨b, off, hA, hP, hc⟩
  · simp [intVals] at h; subst h; simp at hk
  · exact ⟨b, off, hA, hP, hc k _ (by simp [intVals, hk])⟩
theorem FlatIn.start {w : World} {P : Nat → Prop} {A : Option Addr} {l : List StartD} (h : StartsIn w P A l) {k : Nat} (hk : k < l.length) : ∃ b off, A = some ⟨b, off, none⟩ ∧ P b ∧ w.cell? ⟨b, off + k * 2, none⟩ = some (.int .i64 (l[k]).1) ∧ w.cell? ⟨b, off + k * 2 + 1, none⟩ = some (.int .i64 (l[k]).2) := by
  rcases h with h | ⟨b, off, hA, hP, hc⟩
  · have := startVals_len l
    rw [h] at this
    simp at this
    omega
  · have hg := List.getElem?_eq_getElem hk
    exact ⟨b, off, hA, hP, hc (k * 2) _ (startVals_get l k _ hg 0 _ rfl), by have := hc (k * 2 + 1) _ (startVals_get l k _ hg 1 _ rfl); rwa [← Nat.add_assoc] at this⟩
structure ClassD where
  code : Str
  course : Str
  part : Str
  len : Int
  pats : List Int
  seats : Int
  feats : List Str
  staff : List Str
  starts : List StartD
structure ClassA where
  aP : Option Addr
  cP : Nat
  aF : Option Addr
  cF : Nat
  aS : Option Addr
  cS : Nat
  aT : Option Addr
  cT : Nat
structure ClassIn (w : World) (P : Nat → Prop) (x : ClassD) (q : ClassA) : Prop where
  p : NumsIn w P q.aP x.pats
  f : S3.StrsIn w P q.aF x.feats
  s : S3.StrsIn w P q.aS x.staff
  t : StartsIn w P q.aT x.starts
  p1 : x.pats.length ≤ q.cP
  p2 : q.cP ≤ 9223372036854775807
  f1 : x.feats.length ≤ q.cF
  f2 : q.cF ≤ 9223372036854775807
  s1 : x.staff.length ≤ q.cS
  s2 : q.cS ≤ 9223372036854775807
  t1 : x.starts.length ≤ q.cT
  t2 : q.cT ≤ 9223372036854775807
theorem ClassIn.kept {w w' : World} {P : Nat → Prop} {x : ClassD} {q : ClassA} (h : ClassIn w P x q) (hk : ∀ b, P b → w'.heap[b]? = w.heap[b]?) : ClassIn w' P x q :=
  { h with p := h.p.kept hk, f := h.f.kept hk, s := h.s.kept hk, t := h.t.kept hk }
theorem ClassIn.mono {w : World} {P P' : Nat → Prop} {x : ClassD} {q : ClassA} (h : ClassIn w P x q) (hP : ∀ b, P b → P' b) : ClassIn w P' x q :=
  { h with p := h.p.mono hP, f := h.f.mono hP, s := h.s.mono hP, t := h.t.mono hP }
theorem ClassIn.below {w w' : World} {B : Nat} {x : ClassD} {q : ClassA} (h : ClassIn w (fun b => b < B) x q) (hb : Below B w w') : ClassIn w' (fun b => b < B) x q := h.kept fun b hB => hb.block b hB
structure BoxC (w : World) (B : Nat) (a : Array Value) : Prop where
  h : w.heap[B]? = some (.cells a 95 (0, 0))
theorem BoxC.new (w : World) (a : Array Value) : BoxC (w.alloc (.cells a 95)) w.heap.size a := ⟨heap_alloc_new w _⟩
theorem BoxC.lt {w : World} {B : Nat} {a : Array Value} (h : BoxC w B a) : B < w.heap.size := (Array.getElem?_eq_some_iff.1 h.h).1
theorem BoxC.kept {w w' : World} {B : Nat} {a : Array Value} (h : BoxC w B a) (hk : w'.heap[B]? = w.heap[B]?) : BoxC w' B a := ⟨hk.trans h.h⟩
theorem BoxC.below {w w' : World} {B C : Nat} {a : Array Value} (h : BoxC w B a) (hb : Below C w w') (hC : B < C) : BoxC w' B a := h.kept (hb.block B hC)
theorem BoxC.next {w w' : World} {B : Nat} {a : Array Value} (h : BoxC w B a) (hb : Below w.heap.size w w') : BoxC w' B a := h.below hb h.lt
theorem BoxC.cells {w : World} {B : Nat} {v0 v1 v2 v3 v4 v5 v6 v7 v8 : Value} (h : BoxC w B #[v0, v1, v2, v3, v4, v5, v6, v7, v8]) :
    w.cell? ⟨B, 0, none⟩ = some v0 ∧ w.cell? ⟨B, 1, none⟩ = some v1 ∧ w.cell? ⟨B, 2, none⟩ = some v2 ∧ w.cell? ⟨B, 3, none⟩ = some v3 ∧ w.cell? ⟨B, 4, none⟩ = some v4 ∧ w.cell? ⟨B, 5, none⟩ = some v5 ∧ w.cell? ⟨B, 6, none⟩ = some v6 ∧ w.cell? ⟨B, 7, none⟩ = some v7 ∧ w.cell? ⟨B, 8, none⟩ = some v8 := by
  refine ⟨?_, ?_, ?_, ?_, ?_, ?_, ?_, ?_, ?_⟩ <;> (rw [Lib.cell_of_heap h.h]; rfl)
theorem BoxC.free {w : World} {B : Nat} {a : Array Value} (h : BoxC w B a) (j : Nat) : w.frozen? ⟨B, j, none⟩ = false := by simp [World.frozen?, h.h]
theorem BoxC.put {w : World} {B : Nat} {a : Array Value} (h : BoxC w B a) (j : Nat) (u : Value) : BoxC (w.setCell ⟨B, j, none⟩ u) B (a.setIfInBounds j u) := ⟨heap_setCell_same w B j _ _ u h.h⟩
structure Box1 (w : World) (B : Nat) (T : TypeId) (v : Value) : Prop where
  h : w.heap[B]? = some (.cells #[v] T (0, 0))
theorem Box1.new (w : World) (T : TypeId) (v : Value) : Box1 (w.alloc (.cells #[v] T)) w.heap.size T v := ⟨heap_alloc_new w _⟩
theorem Box1.lt {w : World} {B : Nat} {T : TypeId} {v : Value} (h : Box1 w B T v) : B < w.heap.size := (Array.getElem?_eq_some_iff.1 h.h).1
theorem Box1.kept {w w' : World} {B : Nat} {T : TypeId} {v : Value} (h : Box1 w B T v) (hk : w'.heap[B]? = w.heap[B]?) : Box1 w' B T v := ⟨hk.trans h.h⟩
theorem Box1.below {w w' : World} {B C : Nat} {T : TypeId} {v : Value} (h : Box1 w B T v) (hb : Below C w w') (hC : B < C) : Box1 w' B T v := h.kept (hb.block B hC)
theorem Box1.next {w w' : World} {B : Nat} {T : TypeId} {v : Value} (h : Box1 w B T v) (hb : Below w.heap.size w w') : Box1 w' B T v := h.below hb h.lt
theorem Box1.cell {w : World} {B : Nat} {T : TypeId} {v : Value} (h : Box1 w B T v) : w.cell? ⟨B, 0, none⟩ = some v := by
  rw [Lib.cell_of_heap h.h]; rfl
theorem rowLow {w : World} {e z n B B' : Nat} {v : Value} {xs : List Value} (h : w.ownsRow B e z v n xs) (hB : B' ≤ B) : w.ownsRow B' e z v n xs := by
  obtain ⟨h1, h2⟩ := h
  refine ⟨h1, ?_⟩
  rcases h2 with h2 | ⟨g, cap, cur, hv, hg, r⟩
  · exact .inl h2
  · exact .inr ⟨g, cap, cur, hv, Nat.le_trans hB hg, r⟩
end Go.Proofs.YtlgmanbilaminaaGreatDoor.S10
set_option linter.unusedVariables false
namespace Go.Proofs.YtlgmanbilaminaaGreatDoor
open Go Go.Proofs Go.RowKit Go.Lib
def Says (v : Value) (w : World) (e : Ending) (w' : World) : Prop := e = .returned v ∧ Below w.heap.size w w'
structure Box4 (w : World) (B : Nat) (a b c d : Int) : Prop where
  c0 : w.cell? ⟨B, 0, none⟩ = some (.int .i64 a)
  c1 : w.cell? ⟨B, 1, none⟩ = some (.int .i64 b)
  c2 : w.cell? ⟨B, 2, none⟩ = some (.int .i64 c)
  c3 : w.cell? ⟨B, 3, none⟩ = some (.int .i64 d)
  lt : B < w.heap.size
theorem Box4.next {w w' : World} {B N : Nat} {a b c d : Int} (h : Box4 w B a b c d) (k : Below N w w') (hN : B < N) : Box4 w' B a b c d := by
  have kc : ∀ o : Nat, w'.cell? ⟨B, o, none⟩ = w.cell? ⟨B, o, none⟩ := fun o => k.cell (p := ⟨B, o, none⟩) hN
  exact ⟨(kc 0).trans h.c0, (kc 1).trans h.c1, (kc 2).trans h.c2, (kc 3).trans h.c3, Nat.lt_of_lt_of_le h.lt k.size⟩
theorem Box4.new (w : World) (a b c d : Int) (t : TypeId) : Box4 (w.alloc (.cells #[.int .i64 a, .int .i64 b, .int .i64 c, .int .i64 d] t)) w.heap.size a b c d := by
  have e := heap_alloc_new w (.cells #[.int .i64 a, .int .i64 b, .int .i64 c, .int .i64 d] t)
  refine ⟨?_, ?_, ?_, ?_, by simp⟩
  all_goals (rw [Lib.cell_of_heap e]; rfl)
structure K1 (w0 : World) (a b c d : Int) (w : World) : Prop where
  x : Box4 w w0.heap.size a b c d
  b : Below w0.heap.size w0 w
theorem K1.next {w0 w w' : World} {a b c d : Int} (h : K1 w0 a b c d w) (k : Below w.heap.size w w') : K1 w0 a b c d w' := ⟨h.x.next k h.x.lt, h.b.trans (k.mono h.b.size)⟩
theorem row_drawn {w : World} {B e z n : Nat} {v : Value} {xs : List Value} (h : w.ownsRow B e z v n xs) (q : Nat) : (w.drewN q).ownsRow B e z v n xs :=
  (Rolled.drawn w.heap.size w q).row h (fun e => by have := (h.lt _ e).2; omega)
end Go.Proofs.YtlgmanbilaminaaGreatDoor
set_option linter.unusedVariables false
namespace Go.Proofs.YtlgmanbilaminaaGreatDoor
open Go Go.Proofs Go.RowKit Go.Lib
def Cells4 (t : TypeId) (w : World) (B : Nat) (a b x d : Int) : Prop := w.heap[B]? = some (.cells #[.int .i64 a, .int .i64 b, .int .i64 x, .int .i64 d] t (0, 0))
section
variable {T : TypeId} {w w' : World} {B : Nat} {a b x d : Int}
theorem Cells4.box (h : Cells4 T w B a b x d) : Box4 w B a b x d := by
  unfold Cells4 at h
  refine ⟨?_, ?_, ?_, ?_, (Array.getElem?_eq_some_iff.1 h).1⟩
  all_goals (rw [Lib.cell_of_heap h]; rfl)
theorem Cells4.free (h : Cells4 T w B a b x d) (j : Nat) : w.frozen? ⟨B, j, none⟩ = false := cells_free h j
theorem Cells4.lt (h : Cells4 T w B a b x d) : B < w.heap.size := (Array.getElem?_eq_some_iff.1 h).1
theorem Cells4.under (h : Cells4 T w B a b x d) (k : Below w.heap.size w w') : Cells4 T w' B a b x d := (k.block _ h.lt).trans h
theorem Cells4.other (h : Cells4 T w B a b x d) (R j : Nat) (v : Value) (hR : B ≠ R) : Cells4 T (w.setCell ⟨R, j, none⟩ v) B a b x d := (Below.heap_setCell w ⟨R, j, none⟩ v B (by show B ≠ R; exact hR)).trans h
theorem Cells4.set0 (h : Cells4 T w B a b x d) (v : Int) : Cells4 T (w.setCell ⟨B, 0, none⟩ (.int .i64 v)) B v b x d := by unfold Cells4; rw [heap_setCell_same w B 0 _ _ _ h]; rfl
theorem Cells4.set1 (h : Cells4 T w B a b x d) (v : Int) : Cells4 T (w.setCell ⟨B, 1, none⟩ (.int .i64 v)) B a v x d := by unfold Cells4; rw [heap_setCell_same w B 1 _ _ _ h]; rfl
theorem Cells4.set2 (h : Cells4 T w B a b x d) (v : Int) : Cells4 T (w.setCell ⟨B, 2, none⟩ (.int .i64 v)) B a b v d := by unfold Cells4; rw [heap_setCell_same w B 2 _ _ _ h]; rfl
theorem Cells4.set3 (h : Cells4 T w B a b x d) (v : Int) : Cells4 T (w.setCell ⟨B, 3, none⟩ (.int .i64 v)) B a b x v := by unfold Cells4; rw [heap_setCell_same w B 3 _ _ _ h]; rfl
theorem Cells4.all (h : Cells4 T w B a b x d) (v0 v1 v2 v3 : Int) : Cells4 T ((((w.setCell ⟨B, 0, none⟩ (.int .i64 v0)).setCell ⟨B, 1, none⟩ (.int .i64 v1)).setCell ⟨B, 2, none⟩ (.int .i64 v2)).setCell ⟨B, 3, none⟩ (.int .i64 v3)) B v0 v1 v2 v3 :=
  (((h.set0 v0).set1 v1).set2 v2).set3 v3
end
theorem Cells4.new (w : World) (a b x d : Int) (T : TypeId) : Cells4 T (w.alloc (.cells #[.int .i64 a, .int .i64 b, .int .i64 x, .int .i64 d] T)) w.heap.size a b x d := heap_alloc_new w _
theorem DE.trans {w0 w1 w2 : World} {g c k k' : Nat} {A : Option Addr} {L : List Int} (h : DE w0 g c A L k w1) (h' : DE w1 g c A L k' w2) : DE w0 g c A L k' w2 := ⟨h'.d, h.p.trans h'.p h.p.size⟩
structure R1 (T : TypeId) (w0 : World) (g c : Nat) (A : Option Addr) (L : List Int) (k : Nat) (w : World) : Prop where
  e : DE w0 g c A L k w
  r : Cells4 T w w0.heap.size 0 0 0 0
  g0 : g < w0.heap.size
theorem R1.first {w : World} {g c k : Nat} {A : Option Addr} {L : List Int} (h : DiceAt w g A L c k) (T : TypeId) : R1 T w g c A L k (w.alloc (.cells #[.int .i64 0, .int .i64 0, .int .i64 0, .int .i64 0] T)) :=
  ⟨(DE.first h).alloc _, Cells4.new w 0 0 0 0 T, h.lt⟩
end Go.Proofs.YtlgmanbilaminaaGreatDoor
set_option linter.unusedVariables false
namespace Go.Proofs.YtlgmanbilaminaaGreatDoor.S10
open Go Go.Proofs Go.RowKit Go.Lib Go.Proofs.YtlgmanbilaminaaGreatDoor
section
variable {P : Program} {ops : Array Oper} {Q : Exit → Act → World → Prop} {md : Region.Mode} {S S' : World → Prop}
theorem anyH_more (h : ∀ w, S' w → S w) : ∀ (fuel : Nat) (listed : Array Bool) (a : Act) (w : World), wpAnyH P md ops Q S' fuel listed a w → wpAnyH P md ops Q S fuel listed a w
  | 0, _, _, _, k => k
  | fuel + 1, _, _, _, k => ⟨k.1, fun i hi => wpOp_mono (fun a' w' x => ⟨h w' x.1, anyH_more h fuel _ a' w' x.2⟩) (k.2 i hi)⟩
end
def courseS : Nat → Str
  | 0 => [77, 65, 49]
  | 1 => [77, 65, 50]
  | _ => [80, 72]
def cArr (r : ClassD) (q : ClassA) : Array Value := #[.string (ba r.code), .string (ba r.course), .string (ba r.part), .int .i64 r.len, .slice q.aP r.pats.length q.cP, .int .i64 r.seats, .slice q.aF r.feats.length q.cF, .slice q.aS r.staff.length q.cS, .slice q.aT r.starts.length q.cT]
def zeroArr : Array Value := #[.string ⟨#[]⟩, .string ⟨#[]⟩, .string ⟨#[]⟩, .int .i64 0, .slice none 0 0, .int .i64 0, .slice none 0 0, .slice none 0 0, .slice none 0 0]
theorem nine_else (W : World) (R k : Nat) (hk : k ≠ R) (u0 u1 u2 u3 u4 u5 u6 u7 u8 : Value) : (((((((((W.setCell ⟨R, 0, none⟩ u0).setCell ⟨R, 1, none⟩ u1).setCell ⟨R, 2, none⟩ u2).setCell ⟨R, 3, none⟩ u3).setCell ⟨R, 4, none⟩ u4).setCell ⟨R, 5, none⟩ u5).setCell ⟨R, 6, none⟩ u6).setCell ⟨R, 7, none⟩ u7).setCell ⟨R, 8, none⟩ u8).heap[k]? = W.heap[k]? := by
  rw [Below.heap_setCell _ ⟨R, 8, none⟩ _ k hk, Below.heap_setCell _ ⟨R, 7, none⟩ _ k hk, Below.heap_setCell _ ⟨R, 6, none⟩ _ k hk, Below.heap_setCell _ ⟨R, 5, none⟩ _ k hk, Below.heap_setCell _ ⟨R, 4, none⟩ _ k hk, Below.heap_setCell _ ⟨R, 3, none⟩ _ k hk, Below.heap_setCell _ ⟨R, 2, none⟩ _ k hk, Below.heap_setCell _ ⟨R, 1, none⟩ _ k hk, Below.heap_setCell _ ⟨R, 0, none⟩ _ k hk]
theorem nine_size (W : World) (R : Nat) (u0 u1 u2 u3 u4 u5 u6 u7 u8 : Value) : (((((((((W.setCell ⟨R, 0, none⟩ u0).setCell ⟨R, 1, none⟩ u1).setCell ⟨R, 2, none⟩ u2).setCell ⟨R, 3, none⟩ u3).setCell ⟨R, 4, none⟩ u4).setCell ⟨R, 5, none⟩ u5).setCell ⟨R, 6, none⟩ u6).setCell ⟨R, 7, none⟩ u7).setCell ⟨R, 8, none⟩ u8).heap.size = W.heap.size := by simp [World.setCell]
section
variable {w0 w w' : World} {g c : Nat} {A : Option Addr} {L : List Int} {d s b m : Int} {BA BB BD : Option Nat}
end
structure CC (w0 : World) (g c : Nat) (A : Option Addr) (L : List Int) (d s b m : Int) (CB : Nat) (x : ClassD) (q : ClassA) (w : World) : Prop where
  gr : Cells4 52 w w0.heap.size d s b m
  r : BoxC w (w0.heap.size + 1) zeroArr
  k : BoxC w CB (cArr x q)
  kb : w0.heap.size + 2 ≤ CB
  e : ∃ k, DE w0 g c A L k w
  p : w.ownsRow (w0.heap.size + 2) 3 1 (.slice q.aP x.pats.length q.cP) x.pats.length (intVals x.pats)
  f : S3.StrRow w (w0.heap.size + 2) (.slice q.aF x.feats.length q.cF) x.feats
  t : w.ownsRow (w0.heap.size + 2) 127 2 (.slice q.aT x.starts.length q.cT) x.starts.length (startVals x.starts)
  st : x.staff = [] ∧ q.aS = none ∧ q.cS = 0
  g0 : g < w0.heap.size
theorem ownsRow_kind {w : World} {B : Nat} {e : TypeId} {size : Nat} {v : Value} {n : Nat} {xs : List Value} (h : w.ownsRow B e size v n xs) : ∀ g, v.ownBlock = some g → ∃ c fz, w.heap[g]? = some (.cells c e fz) := by
  intro g hg
  rcases h.2 with ⟨rfl, _⟩ | ⟨g', cap, cur, rfl, _, hgg, _⟩
  · simp [Value.ownBlock] at hg
  · simp [Value.ownBlock] at hg
    subst hg
    exact ⟨_, _, hgg⟩
theorem kind_ne {w : World} {B : Nat} {e T : TypeId} {size : Nat} {v : Value} {n : Nat} {xs : List Value} {C : Nat} {a : Array Value} {fz : Nat × Nat} (h : w.ownsRow B e size v n xs) (hC : w.heap[C]? = some (.cells a T fz)) (hne : e ≠ T) : v.ownBlock ≠ some C := by
  intro hv
  obtain ⟨c', fz', h'⟩ := ownsRow_kind h C hv
  rw [hC] at h'
  injection h' with h'
  injection h' with _ h' _
  exact hne h'.symm
theorem kinds_ne {w : World} {B B' : Nat} {e e' : TypeId} {z z' : Nat} {v v' : Value} {n n' : Nat} {xs xs' : List Value} (h : w.ownsRow B e z v n xs) (h' : w.ownsRow B' e' z' v' n' xs') (hne : e ≠ e') : v.ownBlock = none ∨ v.ownBlock ≠ v'.ownBlock := by
  cases hb : v.ownBlock with
  | none => exact .inl rfl
  | some k =>
    refine .inr (fun hv => ?_)
    obtain ⟨c', fz', h2⟩ := ownsRow_kind h' k hv.symm
    exact kind_ne h h2 hne hb
section
variable {w0 w w' : World} {g c : Nat} {A : Option Addr} {L : List Int} {d s b m : Int} {CB : Nat} {x x' : ClassD} {q q' : ClassA}
theorem CC.next (h : CC w0 g c A L d s b m CB x q w) (k : Below w.heap.size w w') : CC w0 g c A L d s b m CB x q w' := by
  obtain ⟨j, h0⟩ := h.e
  have hl := h.gr.lt
  exact ⟨h.gr.under k, h.r.next k, h.k.next k, h.kb, ⟨j, h0.below (k.mono (by omega)) h.g0⟩, S3.row_under h.p k, S3.row_under h.f k, S3.row_under h.t k, h.st, h.g0⟩
theorem CC.alloc (h : CC w0 g c A L d s b m CB x q w) (o : Obj) : CC w0 g c A L d s b m CB x q (w.alloc o) := h.next ((Below.refl _ w).alloc (Nat.le_refl _) o)
theorem CC.dice (h : CC w0 g c A L d s b m CB x q w) : ∃ k, DiceAt w g A L c k := by
  obtain ⟨k, h0⟩ := h.e
  exact ⟨k, h0.d⟩
theorem CC.size (h : CC w0 g c A L d s b m CB x q w) : w0.heap.size + 2 ≤ w.heap.size := by have := h.r.lt; omega
theorem CC.put (hgr : Cells4 52 w w0.heap.size d s b m) (hrs : BoxC w (w0.heap.size + 1) zeroArr) (hkl : BoxC w CB (cArr x q)) (hk : w0.heap.size + 2 ≤ CB) (he : ∃ k, DE w0 g c A L k w) (hg : g < w0.heap.size)
    (j : Nat) (v : Value) (hv : (cArr x q).setIfInBounds j v = cArr x' q')
    (hp : w.ownsRow (w0.heap.size + 2) 3 1 (.slice q'.aP x'.pats.length q'.cP) x'.pats.length (intVals x'.pats)) (hf : S3.StrRow w (w0.heap.size + 2) (.slice q'.aF x'.feats.length q'.cF) x'.feats)
    (ht : w.ownsRow (w0.heap.size + 2) 127 2 (.slice q'.aT x'.starts.length q'.cT) x'.starts.length (startVals x'.starts)) (hst : x'.staff = [] ∧ q'.aS = none ∧ q'.cS = 0) :
    CC w0 g c A L d s b m CB x' q' (w.setCell ⟨CB, j, none⟩ v) := by
  obtain ⟨k, h0⟩ := he
  have hl := hgr.lt
  have hB : Below (w0.heap.size + 2) w (w.setCell ⟨CB, j, none⟩ v) := (Below.refl _ w).setCell (p := ⟨CB, j, none⟩) hk v
  refine ⟨(hB.block _ (by omega)).trans hgr, hrs.kept (hB.block _ (by omega)), ?_, hk, ⟨k, h0.set _ _ _ (by omega) (by omega)⟩, ownsRow_setCell_other hp (kind_ne hp hkl.h (by decide)) v, ownsRow_setCell_other hf (kind_ne hf hkl.h (by decide)) v, ownsRow_setCell_other ht (kind_ne ht hkl.h (by decide)) v, hst, hg⟩
  have := hkl.put j v
  rwa [hv] at this
theorem CC.other (h : CC w0 g c A L d s b m CB x q w) {k : Nat} (h1 : w0.heap.size + 2 ≤ k) (h2 : k ≠ CB) (h3 : (Value.slice q.aT x.starts.length q.cT).ownBlock ≠ some k) {a : Array Value} {fz : Nat × Nat} (h4 : w.heap[k]? = some (.cells a 127 fz)) (j : Nat) (v : Value) :
    CC w0 g c A L d s b m CB x q (w.setCell ⟨k, j, none⟩ v) := by
  obtain ⟨i, h0⟩ := h.e
  have hg := h.g0
  have hl := h.gr.lt
  have hB : Below (w0.heap.size + 2) w (w.setCell ⟨k, j, none⟩ v) := (Below.refl _ w).setCell (p := ⟨k, j, none⟩) h1 v
  exact ⟨(hB.block _ (by omega)).trans h.gr, h.r.kept (hB.block _ (by omega)), h.k.kept (Below.heap_setCell _ ⟨k, j, none⟩ _ CB (by show CB ≠ k; omega)), h.kb, ⟨i, h0.set _ _ _ (by omega) (by omega)⟩, ownsRow_setCell_other h.p (kind_ne h.p h4 (by decide)) v, ownsRow_setCell_other h.f (kind_ne h.f h4 (by decide)) v, ownsRow_setCell_other h.t h3 v, h.st, hg⟩
end
theorem loadC {w : World} {k : Nat} {v0 v1 v2 v3 v4 v5 v6 v7 v8 : Value} (h : w.cell? ⟨k, 0, none⟩ = some v0 ∧ w.cell? ⟨k, 1, none⟩ = some v1 ∧ w.cell? ⟨k, 2, none⟩ = some v2 ∧ w.cell? ⟨k, 3, none⟩ = some v3 ∧ w.cell? ⟨k, 4, none⟩ = some v4 ∧ w.cell? ⟨k, 5, none⟩ = some v5 ∧ w.cell? ⟨k, 6, none⟩ = some v6 ∧ w.cell? ⟨k, 7, none⟩ = some v7 ∧ w.cell? ⟨k, 8, none⟩ = some v8) : (loadVar 95 ⟨k, 0, none⟩).run Tryz.prog w = .ok (.agg #[v0, v1, v2, v3, v4, v5, v6, v7, v8]) w := by
  obtain ⟨h0, h1, h2, h3, h4, h5, h6, h7, h8⟩ := h
  simp [loadVar, go_sem, h0, h1, h2, h3, h4, h5, h6, h7, h8]
section
variable {w0 w w' : World} {g c : Nat} {A : Option Addr} {L : List Int} {d s b m : Int} {CB : Nat} {x : ClassD} {q : ClassA}
theorem CC.classIn (h : CC w0 g c A L d s b m CB x q w) : ClassIn w (fun k => w0.heap.size + 2 ≤ k ∧ k < w.heap.size) x q := by
  obtain ⟨A1, c1, e1, l1, m1, f1⟩ := FlatIn.ofRow h.p (by simp [intVals])
  obtain ⟨A2, c2, e2, l2, m2, f2⟩ := S3.StrRow.strsIn h.f
  obtain ⟨A3, c3, e3, l3, m3, f3⟩ := FlatIn.ofRow h.t (startVals_len _)
  obtain ⟨s1, s2, s3⟩ := h.st
  injection e1 with e1 _ e1c
  injection e2 with e2 _ e2c
  injection e3 with e3 _ e3c
  subst e1 e2 e3 e1c e2c e3c
  exact ⟨f1, f2, by rw [s1]; exact .inl rfl, f3, l1, m1, l2, m2, by rw [s1]; exact Nat.zero_le _, by omega, l3, m3⟩
theorem CC.done (h : CC w0 g c A L d s b m CB x q w) : ∃ W, (((((((((w.setCell ⟨w0.heap.size + 1, 0, none⟩ (.string (ba x.code))).setCell ⟨w0.heap.size + 1, 1, none⟩ (.string (ba x.course))).setCell ⟨w0.heap.size + 1, 2, none⟩ (.string (ba x.part))).setCell ⟨w0.heap.size + 1, 3, none⟩ (.int .i64 x.len)).setCell ⟨w0.heap.size + 1, 4, none⟩ (.slice q.aP x.pats.length q.cP)).setCell ⟨w0.heap.size + 1, 5, none⟩ (.int .i64 x.seats)).setCell ⟨w0.heap.size + 1, 6, none⟩ (.slice q.aF x.feats.length q.cF)).setCell ⟨w0.heap.size + 1, 7, none⟩ (.slice q.aS x.staff.length q.cS)).setCell ⟨w0.heap.size + 1, 8, none⟩ (.slice q.aT x.starts.length q.cT)) = W ∧
    (loadVar 95 ⟨w0.heap.size + 1, 0, none⟩).run Tryz.prog W = .ok (.agg (cArr x q)) W ∧ ClassIn W (fun k => w0.heap.size ≤ k ∧ k < W.heap.size) x q ∧ ∃ k, DE w0 g c A L k W := by
  obtain ⟨k, h0⟩ := h.e
  have hg := h.g0
  have hN := ((((((((h.r.put 0 (.string (ba x.code))).put 1 (.string (ba x.course))).put 2 (.string (ba x.part))).put 3 (.int .i64 x.len)).put 4 (.slice q.aP x.pats.length q.cP)).put 5 (.int .i64 x.seats)).put 6 (.slice q.aF x.feats.length q.cF)).put 7 (.slice q.aS x.staff.length q.cS)).put 8 (.slice q.aT x.starts.length q.cT)
  unfold zeroArr at hN
  simp only [List.setIfInBounds_toArray, List.set_cons_zero, List.set_cons_succ] at hN
  refine ⟨_, rfl, loadC hN.cells, ?_, k, ?_⟩
  · exact (h.classIn.kept (fun j hj => nine_else w (w0.heap.size + 1) j (by have := hj.1; omega) _ _ _ _ _ _ _ _ _)).mono (fun j hj => ⟨by omega, by rw [nine_size]; exact hj.2⟩)
  · have B := fun (W : World) (hW : DE w0 g c A L k W) (j : Nat) (v : Value) => hW.set (w0.heap.size + 1) j v (by omega) (by omega)
    exact B _ (B _ (B _ (B _ (B _ (B _ (B _ (B _ (B _ h0 0 _) 1 _) 2 _) 3 _) 4 _) 5 _) 6 _) 7 _) 8 _
end
end Go.Proofs.YtlgmanbilaminaaGreatDoor.S10
set_option linter.unusedVariables false
set_option maxRecDepth 100000
namespace Go.Proofs.YtlgmanbilaminaaGreatDoor.S12
open Go Go.Proofs Go.ChangeShapes Go.WideShapes Go.ChangeAt Go.RowKit Go.Deep Go.Proofs.YtlgmanbilaminaaGreatDoor Go.Proofs.YtlgmanbilaminaaGreatDoor.S10
section
variable {H : Type} {enc : TypeId × Value → H} {P : Program}
theorem trodAll_stays (hl : laidOutB P = true) {W W' : World} (hb : Below W.heap.size W W') {sp : Nat → Bool} : ∀ {ts : List TypeId} {vs : List Value} {ds : List (DataW H)} {ps : List MemPlace},
    (∀ t ∈ ts, P.readableRec t = true ∧ t < P.types.size) → DataW.TrodAll enc P W 0 (fun _ => true) true ts vs ds ps → (∀ x ∈ ps, x.block < W.heap.size) → (∀ x ∈ ps, sp x.block = true) → DataW.TrodAll enc P W' 0 sp true ts vs ds ps
  | [], vs, ds, ps, _, h, _, _ => by
    obtain ⟨rfl, rfl, rfl⟩ := trodAll_nil h
    exact trodAll_mk0
  | t :: ts, vs, ds, ps, ht, h, hlt, hsp => by
    obtain ⟨v, vs', d, ds', p, q, rfl, rfl, rfl, h0, hr⟩ := trodAll_cons h
    have hp : ∀ x ∈ p, x.block < W.heap.size := fun x hx => hlt x (List.mem_append.2 (.inl hx))
    refine trodAll_cons_mk (WideElems.Trod_stays hl (ht t (by simp)).1 (ht t (by simp)).2 h0 (fun x hx => hb.same (hp x hx)) (fun x hx => hsp x (List.mem_append.2 (.inl hx)))) ?_
    exact trodAll_stays hl hb (fun t' h' => ht t' (by simp [h'])) hr (fun x hx => hlt x (List.mem_append.2 (.inr hx))) (fun x hx => hsp x (List.mem_append.2 (.inr hx)))
theorem law_post {f : Func} {s : ChangeSpec} {apart fresh again : Bool} {tb : TypeId} {W W' : World} {args : Array Value} {ds gs : List (DataW H)} {before : List MemPlace}
    (hl : laidOutB P = true) (hts : ∀ t ∈ f.params.toList, P.readableRec t = true ∧ t < P.types.size) (hres : f.resultTypes = #[tb]) (htb : P.underlying tb = some .bool)
    (hvars : s.vars = []) (hfn : s.fn H (ds ++ gs) = { results := [.lit (.bool true)], args := ds, vars := [] })
    (hW : DataW.Whole enc P f.params.toList s.vars apart W args.toList ds gs before) (hb : Below W.heap.size W W') :
    s.post enc P f apart fresh false again W args (.bool true) W' := by
  have hlt : ∀ p ∈ before, p.block < W.heap.size := fun p hp => hW.lt p hp
  have hW0 := hW
  obtain ⟨p, q, hA, hV, hpq, hz, hn⟩ := hW0
  rw [hvars] at hV
  obtain ⟨rfl, rfl⟩ := trodVars_none hV
  rw [List.append_nil] at hpq
  subst hpq
  have hr : ∀ (b : Nat) (sp : Nat → Bool) (hd : Bool), DataW.TrodAll enc P W' b sp hd f.resultTypes.toList ((Value.bool true).resultList f.resultTypes.size) (s.fn H (ds ++ [])).results [] := fun b sp hd => by
    rw [hres, hfn]
    exact trodAll_cons_mk (shut_bool htb true) trodAll_mk0
  have ha : ∀ sp : Nat → Bool, (∀ x ∈ before, sp x.block = true) → DataW.TrodAll enc P W' 0 sp true f.params.toList args.toList (s.fn H (ds ++ [])).args before := fun sp hsp => by
    rw [hfn]
    exact trodAll_stays hl hb hts hA hlt hsp
  have hold : ∀ x ∈ before, (fun b => decide (b < W.heap.size)) x.block = true := fun x hx => by simpa using hlt x hx
  have hvs : ∀ sp : Nat → Bool, DataW.TrodVars enc P W' sp s.vars (s.fn H (ds ++ [])).vars [] := fun sp => by
    rw [hvars, hfn]
    exact rfl
  refine ⟨ds, [], before, [], before, [], hW, hr _ _ _, ha _ hold, hvs _, World.keptBut_mono (fun x hx => ⟨hx, .inr (.inl hx)⟩) (hb.frame (· ∈ before)), fun _ => ?_⟩
  refine ⟨?_, _, _, ([] ++ before) ++ [], ⟨[] ++ before, [], trodAll_append (ha _ (fun _ _ => rfl)) (hr _ _ _), hvs _, rfl, ?_, ?_⟩, ?_⟩
  · intro j t r hj hr'
    rw [hres] at hj hr'
    match j, hj, hr' with
    | 0, hj, hr' =>
      simp at hj
      subst hj
      obtain rfl : (Value.bool true) = r := by simpa [Value.resultList] using hr'
      exact okWide_bool_mk htb true
    | j + 1, hj, _ => simp at hj
  · intro b off hp
    have hin : MemPlace.cell b off ∈ before := by simpa using hp
    rw [hb.frozen (hlt _ hin)]
    exact hz b off hin
  · intro h
    simpa using hn h
  · intro x hx _
    simpa using hx
end
theorem own : ownKnob Tryz.prog.godebug = none := by kernel_rfl
theorem laidOut : laidOutB Tryz.prog = true := by kernel_rfl
theorem row9 : Tryz.prog.readableRec 9 = true ∧ 9 < Tryz.prog.types.size := ⟨by kernel_rfl, of_decide_eq_true (by kernel_rfl)⟩
theorem rowRecs : Tryz.prog.readableRec 23 = true ∧ 23 < Tryz.prog.types.size := ⟨by kernel_rfl, of_decide_eq_true (by kernel_rfl)⟩
theorem rowReqs : Tryz.prog.readableRec 22 = true ∧ 22 < Tryz.prog.types.size := ⟨by kernel_rfl, of_decide_eq_true (by kernel_rfl)⟩
theorem uErr : Tryz.prog.underlying 166 = some (.interface #[("Error", 169)]) := by kernel_rfl
theorem star : "*" ++ "errors.errorString" = "*errors.errorString" := by decide
theorem rowPtr (u : TypeId) (h : Tryz.prog.typeName? 3 u = some "*errors.errorString") : u = 240 :=
  typeName_ptr_named (nm := "errors.errorString") (by rw [star]; kernel_rfl) (by kernel_rfl) (by decide) u (by rw [star]; exact h)
theorem gSyn : Tryz.prog.globalNamed "strconv.ErrSyntax" = some 5 := by kernel_rfl
section
variable {H : Type} {enc : TypeId × Value → H} {w : World} {base : Nat} {sp : Nat → Bool} {held : Bool}
end
theorem errSyntax_ofL {W : World} {L : List (String × DataW Unit)} (hL : laidMet Tryz.prog (("strconv.ErrSyntax", Rows.laid_strconv_ErrSyntax) :: L) W) : ∃ ev, W.cell? ⟨5, 0, none⟩ = some ev ∧ (ev = .nilIface ∨ ∃ te pe, ev = .iface te pe) := by
  obtain ⟨a, s, hv, _⟩ := laid_sentinel hL gSyn (ti := 166) (tp := 240) (te := 242) (ts := 9) (f := { name := "s", type := 9, offset := 0, embedded := false, tag := "", pkgPath := "errors", byteOffset := 0 }) (ms := #[("Error", 169)]) (by kernel_rfl) uErr rowPtr (by kernel_rfl) (by kernel_rfl) rfl rfl (by kernel_rfl) (by kernel_rfl) (by kernel_rfl)
  exact ⟨_, World.var?_cell gSyn hv 0, .inr ⟨_, _, rfl⟩⟩
theorem maxLen_of {W : World} (h : W.ShapedOpen Tryz.prog) : ∃ m, W.cell? ⟨1, 0, none⟩ = some (.int .i64 m) :=
  cell_of_shapedOpen_int (t := 3) (zero := #[.int .i64 0]) h (of_decide_eq_true (by kernel_rfl)) (by kernel_rfl) rfl (by kernel_rfl) (by kernel_rfl) Tryz.underlying3
theorem env3_ofL {W : World} {L : List (String × DataW Unit)} (hL : laidMet Tryz.prog L W) (hm : ("internal/strconv.uint64pow10", (Rows.laid_internal_strconv_uint64pow10 : DataW Unit)) ∈ L) (hsh : W.ShapedOpen Tryz.prog) (he : ∃ ev, W.cell? ⟨5, 0, none⟩ = some ev ∧ (ev = .nilIface ∨ ∃ te pe, ev = .iface te pe)) : S3.Env W := by
  refine ⟨maxLen_of hsh, he, ?_, by obtain ⟨ev, h1, _⟩ := he; exact World.block_lt_of_cell? W _ h1⟩
  obtain ⟨g, t, cs, fuel, p, hg, hty, hvar, hd⟩ := Lib.laidMet.reads hL hm
  obtain rfl := Option.some.inj (S3.gTab.symm.trans hg)
  obtain rfl := Option.some.inj ((show (Tryz.prog.globals[2]?).map (·.type) = some 199 by kernel_rfl).symm.trans hty)
  have hcs := Lib.cells_of_tab (n := 20) (e := 150) (zs := Lib.pow10Tab) (k := .u64) (by kernel_rfl) (by kernel_rfl) (by kernel_rfl) (by kernel_rfl) hd
  unfold Lib.TabIs
  rw [hvar, ← hcs]
def cellsOfAgg : DataW Unit → Array Value
  | .agg l => (l.map fun | .lit (.int k z) => Value.int k z | _ => undef).toArray
  | _ => #[]
def acceptCells : Array Value := ((List.range 16).flatMap fun i => [Value.int .u8 (Lib.accLo i), Value.int .u8 (Lib.accHi i)]).toArray
def firstCells : Array Value := ((List.range 256).map fun b => Value.int .u8 (Lib.firstT b)).toArray
noncomputable def laidWorld (os : Os) : World :=
  let N := (World.settled Tryz.prog os).heap.size
  let w0 := World.holding Tryz.prog os ⟨#[.cells #[.string ⟨#[105, 110, 118, 97, 108, 105, 100, 32, 115, 121, 110, 116, 97, 120]⟩] 242, .cells #[.string ⟨#[118, 97, 108, 117, 101, 32, 111, 117, 116, 32, 111, 102, 32, 114, 97, 110, 103, 101]⟩] 242, .cells #[.string ⟨#[98, 101, 97, 109, 101, 114]⟩, .string ⟨#[108, 97, 98]⟩, .string ⟨#[112, 105, 97, 110, 111]⟩] 9], #[], []⟩
  let put (h : Array Obj) (g : Nat) (cs : Array Value) : Array Obj := h.modify g fun
    | .cells _ t frozen => .cells cs t frozen
    | o => o
  let h3 := put (put (put (put (put (put (put (put (w0.heap) 7 firstCells) 8 acceptCells) 5 #[.iface 240 (.pointer (some ⟨N, 0, none⟩))]) 6 #[.iface 240 (.pointer (some ⟨N + 1, 0, none⟩))]) 2 (cellsOfAgg Rows.laid_internal_strconv_uint64pow10)) 3 (cellsOfAgg Rows.laid_math_bits_deBruijn32tab)) 4 (cellsOfAgg Rows.laid_math_bits_deBruijn64tab)) 0 #[.slice (some ⟨N + 2, 0, none⟩) 3 3]
  { w0 with heap := h3 }
end Go.Proofs.YtlgmanbilaminaaGreatDoor.S12
set_option linter.unusedVariables false
namespace Go.Proofs.YtlgmanbilaminaaGreatDoor.S12
open Go Go.Proofs Go.RowKit Go.Lib Go.Proofs.YtlgmanbilaminaaGreatDoor
structure ReqD where
  s : Str
  c : Str
  p : Int
  l : List Str
abbrev ReqA := Option Addr × Nat
def reqVs (x : ReqD) (q : ReqA) : List Value := [.string (ba x.s), .string (ba x.c), .int .i64 x.p, .slice q.1 x.l.length q.2]
def reqV (x : ReqD) (q : ReqA) : Value := .agg #[.string (ba x.s), .string (ba x.c), .int .i64 x.p, .slice q.1 x.l.length q.2]
structure ReqIn (w : World) (P : Nat → Prop) (x : ReqD) (q : ReqA) : Prop where
  t : S3.StrsIn w P q.1 x.l
  t1 : x.l.length ≤ q.2
  t2 : q.2 ≤ 9223372036854775807
theorem ReqIn.kept {w w' : World} {P : Nat → Prop} {x : ReqD} {q : ReqA} (h : ReqIn w P x q) (hk : ∀ b, P b → w'.heap[b]? = w.heap[b]?) : ReqIn w' P x q := ⟨h.t.kept hk, h.t1, h.t2⟩
theorem ReqIn.mono {w : World} {P P' : Nat → Prop} {x : ReqD} {q : ReqA} (h : ReqIn w P x q) (hP : ∀ b, P b → P' b) : ReqIn w P' x q := ⟨h.t.mono hP, h.t1, h.t2⟩
theorem ReqIn.below {w w' : World} {B : Nat} {x : ReqD} {q : ReqA} (h : ReqIn w (fun b => b < B) x q) (hb : Below B w w') : ReqIn w' (fun b => b < B) x q := h.kept fun b hB => hb.block b hB
def ReqsIn (w : World) (P : Nat → Prop) (A : Option Addr) (l : List ReqD) : Prop :=
  l = [] ∨ ∃ b off, A = some ⟨b, off, none⟩ ∧ P b ∧ ∀ (j : Nat) (x : ReqD), l[j]? = some x → ∃ q, ReqIn w P x q ∧ ∀ (i : Nat) (v : Value), (reqVs x q)[i]? = some v → w.cell? ⟨b, off + j * 4 + i, none⟩ = some v
theorem ReqsIn.kept {w w' : World} {P : Nat → Prop} {A : Option Addr} {l : List ReqD} (h : ReqsIn w P A l) (hk : ∀ b, P b → w'.heap[b]? = w.heap[b]?) : ReqsIn w' P A l := by
  rcases h with h | ⟨b, off, hA, hP, hc⟩
  · exact .inl h
  · refine .inr ⟨b, off, hA, hP, fun j r hj => ?_⟩
    obtain ⟨q, h1, h2⟩ := hc j r hj
    exact ⟨q, h1.kept hk, fun i v hv => (World.cell?_of_block (w := w) (hk b hP)).trans (h2 i v hv)⟩
theorem ReqsIn.mono {w : World} {P P' : Nat → Prop} {A : Option Addr} {l : List ReqD} (h : ReqsIn w P A l) (hP : ∀ b, P b → P' b) : ReqsIn w P' A l := by
  rcases h with h | ⟨b, off, hA, hb, hc⟩
  · exact .inl h
  · refine .inr ⟨b, off, hA, hP b hb, fun j r hj => ?_⟩
    obtain ⟨q, h1, h2⟩ := hc j r hj
    exact ⟨q, h1.mono hP, h2⟩
theorem ReqsIn.below {w w' : World} {B : Nat} {A : Option Addr} {l : List ReqD} (h : ReqsIn w (fun b => b < B) A l) (hb : Below B w w') : ReqsIn w' (fun b => b < B) A l := h.kept fun b hB => hb.block b hB
theorem ReqsIn.at_ {w : World} {P : Nat → Prop} {A : Option Addr} {l : List ReqD} (h : ReqsIn w P A l) {k : Nat} (hk : k < l.length) :
    ∃ b off q, A = some ⟨b, off, none⟩ ∧ P b ∧ ReqIn w P l[k] q ∧ w.cell? ⟨b, off + k * 4, none⟩ = some (.string (ba l[k].s)) ∧ w.cell? ⟨b, off + k * 4 + 1, none⟩ = some (.string (ba l[k].c)) ∧ w.cell? ⟨b, off + k * 4 + 2, none⟩ = some (.int .i64 l[k].p) ∧ w.cell? ⟨b, off + k * 4 + 3, none⟩ = some (.slice q.1 l[k].l.length q.2) := by
  rcases h with h | ⟨b, off, hA, hP, hc⟩
  · subst h; simp at hk
  · obtain ⟨q, h1, h2⟩ := hc k _ (List.getElem?_eq_getElem hk)
    exact ⟨b, off, q, hA, hP, h1, h2 0 _ rfl, h2 1 _ rfl, h2 2 _ rfl, h2 3 _ rfl⟩
structure Box4 (w : World) (B : Nat) (v0 v1 v2 v3 : Value) : Prop where
  h : w.heap[B]? = some (.cells #[v0, v1, v2, v3] 61 (0, 0))
theorem Box4.new (w : World) (v0 v1 v2 v3 : Value) : Box4 (w.alloc (.cells #[v0, v1, v2, v3] 61)) w.heap.size v0 v1 v2 v3 := ⟨heap_alloc_new w _⟩
theorem Box4.lt {w : World} {B : Nat} {v0 v1 v2 v3 : Value} (h : Box4 w B v0 v1 v2 v3) : B < w.heap.size := (Array.getElem?_eq_some_iff.1 h.h).1
theorem Box4.kept {w w' : World} {B : Nat} {v0 v1 v2 v3 : Value} (h : Box4 w B v0 v1 v2 v3) (hk : w'.heap[B]? = w.heap[B]?) : Box4 w' B v0 v1 v2 v3 := ⟨hk.trans h.h⟩
theorem Box4.below {w w' : World} {B C : Nat} {v0 v1 v2 v3 : Value} (h : Box4 w B v0 v1 v2 v3) (hb : Below C w w') (hC : B < C) : Box4 w' B v0 v1 v2 v3 := h.kept (hb.block B hC)
theorem Box4.next {w w' : World} {B : Nat} {v0 v1 v2 v3 : Value} (h : Box4 w B v0 v1 v2 v3) (hb : Below w.heap.size w w') : Box4 w' B v0 v1 v2 v3 := h.below hb h.lt
theorem Box4.cells {w : World} {B : Nat} {v0 v1 v2 v3 : Value} (h : Box4 w B v0 v1 v2 v3) : w.cell? ⟨B, 0, none⟩ = some v0 ∧ w.cell? ⟨B, 1, none⟩ = some v1 ∧ w.cell? ⟨B, 2, none⟩ = some v2 ∧ w.cell? ⟨B, 3, none⟩ = some v3 := by
  refine ⟨?_, ?_, ?_, ?_⟩ <;> (rw [Lib.cell_of_heap h.h]; rfl)
theorem Box4.free {w : World} {B : Nat} {v0 v1 v2 v3 : Value} (h : Box4 w B v0 v1 v2 v3) (j : Nat) : w.frozen? ⟨B, j, none⟩ = false := by simp [World.frozen?, h.h]
structure Box1 (w : World) (B : Nat) (T : TypeId) (v : Value) : Prop where
  h : w.heap[B]? = some (.cells #[v] T (0, 0))
theorem Box1.new (w : World) (T : TypeId) (v : Value) : Box1 (w.alloc (.cells #[v] T)) w.heap.size T v := ⟨heap_alloc_new w _⟩
theorem Box1.lt {w : World} {B : Nat} {T : TypeId} {v : Value} (h : Box1 w B T v) : B < w.heap.size := (Array.getElem?_eq_some_iff.1 h.h).1
theorem Box1.kept {w w' : World} {B : Nat} {T : TypeId} {v : Value} (h : Box1 w B T v) (hk : w'.heap[B]? = w.heap[B]?) : Box1 w' B T v := ⟨hk.trans h.h⟩
theorem Box1.below {w w' : World} {B C : Nat} {T : TypeId} {v : Value} (h : Box1 w B T v) (hb : Below C w w') (hC : B < C) : Box1 w' B T v := h.kept (hb.block B hC)
theorem Box1.next {w w' : World} {B : Nat} {T : TypeId} {v : Value} (h : Box1 w B T v) (hb : Below w.heap.size w w') : Box1 w' B T v := h.below hb h.lt
theorem Box1.cell {w : World} {B : Nat} {T : TypeId} {v : Value} (h : Box1 w B T v) : w.cell? ⟨B, 0, none⟩ = some v := by
  rw [Lib.cell_of_heap h.h]; rfl
theorem Box1.free {w : World} {B : Nat} {T : TypeId} {v : Value} (h : Box1 w B T v) (j : Nat) : w.frozen? ⟨B, j, none⟩ = false := by simp [World.frozen?, h.h]
theorem infoReq : (Tryz.prog.info? 61).map (fun i => (i.zero, i.size, i.bytes)) = some (some (.agg #[.string ⟨#[]⟩, .string ⟨#[]⟩, .int .i64 0, .slice none 0 0]), 4, 64) := by kernel_rfl
def reqVals (l : List (ReqD × ReqA)) : List Value := l.flatMap fun p => reqVs p.1 p.2
theorem reqVals_app (a b : List (ReqD × ReqA)) : reqVals (a ++ b) = reqVals a ++ reqVals b := by simp [reqVals]
theorem reqVals_len : ∀ l : List (ReqD × ReqA), (reqVals l).length = l.length * 4
  | [] => rfl
  | t :: r => by
    have := reqVals_len r
    unfold reqVals at this ⊢
    rw [List.flatMap_cons, List.length_append, this, List.length_cons]
    show 4 + _ = _
    omega
theorem reqVals_get : ∀ (l : List (ReqD × ReqA)) (j : Nat) (t : ReqD × ReqA), l[j]? = some t → ∀ (i : Nat) (v : Value), (reqVs t.1 t.2)[i]? = some v → (reqVals l)[j * 4 + i]? = some v
  | [], j, t, h, _, _, _ => by simp at h
  | a :: r, 0, t, h, i, v, hv => by
    simp at h
    subst h
    have hi : i < 4 := (List.getElem?_eq_some_iff.1 hv).1
    unfold reqVals
    rw [List.flatMap_cons, List.getElem?_append_left (by show _ < 4; omega)]
    simpa using hv
  | a :: r, j + 1, t, h, i, v, hv => by
    have := reqVals_get r j t (by simpa using h) i v hv
    unfold reqVals at this ⊢
    rw [List.flatMap_cons, List.getElem?_append_right (by show 4 ≤ _; omega)]
    show (List.flatMap _ r)[(j + 1) * 4 + i - 4]? = _
    rw [show (j + 1) * 4 + i - 4 = j * 4 + i by omega]
    exact this
theorem reqVals_one : ∀ (l : List (ReqD × ReqA)), ∀ u ∈ reqVals l, u.oneCell' = true := by
  intro l u hu
  obtain ⟨t, _, h⟩ := List.mem_flatMap.1 hu
  simp [reqVs] at h
  rcases h with rfl | rfl | rfl | rfl <;> rfl
theorem req_one (r : ReqD) (q : ReqA) : ∀ u ∈ reqVs r q, u.oneCell' = true := by
  intro u hu
  simp [reqVs] at hu
  rcases hu with rfl | rfl | rfl | rfl <;> rfl
def ReqRow (w : World) (B : Nat) (P : Nat → Prop) (v : Value) (l : List ReqD) : Prop := ∃ L : List (ReqD × ReqA), L.map (·.1) = l ∧ w.ownsRow B 61 4 v l.length (reqVals L) ∧ ∀ p ∈ L, ReqIn w P p.1 p.2
theorem ReqRow.reqsIn {w : World} {B : Nat} {P : Nat → Prop} {v : Value} {l : List ReqD} (h : ReqRow w B P v l) : ∃ A c, v = .slice A l.length c ∧ l.length ≤ c ∧ c ≤ 9223372036854775807 ∧ ReqsIn w (fun b => P b ∨ (B ≤ b ∧ b < w.heap.size)) A l := by
  obtain ⟨L, rfl, h, hL⟩ := h
  have h' := h
  rcases h.2 with ⟨hv, h0⟩ | ⟨g, cap, cur, hv, hB, hg, h1, h2, _⟩
  · have hl : L.map (·.1) = [] := List.eq_nil_of_length_eq_zero h0
    rw [hl]
    exact ⟨none, 0, by rw [hv]; rfl, Nat.le_refl _, by omega, .inl rfl⟩
  · refine ⟨_, cap, hv, h1, by unfold maxLen at h2; omega, .inr ⟨g, 0, rfl, .inr ⟨hB, (Array.getElem?_eq_some_iff.1 hg).1⟩, fun j r hj => ?_⟩⟩
    rw [List.getElem?_map] at hj
    obtain ⟨p, hp, rfl⟩ := Option.map_eq_some_iff.1 hj
    refine ⟨p.2, (hL p (List.mem_of_getElem? hp)).mono (fun b hb => .inl hb), fun i v' hv' => ?_⟩
    have := World.ownsRow.cells h' (g := g) (by rw [hv]; rfl) (j * 4 + i) v' (reqVals_get L j p hp i v' hv')
    rw [Addr.add_lit] at this
    rw [← Nat.add_assoc] at this
    exact this
theorem four_newR (w : World) (r : ReqD) (q : ReqA) : ∀ (j : Nat) (u : Value), (reqVs r q)[j]? = some u → (w.alloc (.cells #[.string (ba r.s), .string (ba r.c), .int .i64 r.p, .slice q.1 r.l.length q.2] 61)).cell? ((⟨w.heap.size, 0, none⟩ : Addr).add j) = some u := by
  intro j u h
  obtain ⟨k0, k1, k2, k3⟩ := (Box4.new w (.string (ba r.s)) (.string (ba r.c)) (.int .i64 r.p) (.slice q.1 r.l.length q.2)).cells
  rw [Addr.add_lit]
  match j, h with
  | 0, h => exact k0.trans h
  | 1, h => exact k1.trans h
  | 2, h => exact k2.trans h
  | 3, h => exact k3.trans h
  | j + 4, h => simp [reqVs] at h
end Go.Proofs.YtlgmanbilaminaaGreatDoor.S12
set_option linter.unusedVariables false
namespace Go.Proofs.YtlgmanbilaminaaGreatDoor.S3
open Go Go.Proofs Go.RowKit Go.Lib Go.Sort
theorem grow_below (w : World) (k : Nat) (os : Array Obj) : Below w.heap.size w (grow (w.drewN k) os) := by
  have h := below_drewN (Below.refl w.heap.size w) k
  refine ⟨h.os, h.tape, h.output, ?_, fun b hb => ?_⟩
  · show w.heap.size ≤ ((w.drewN k).heap ++ os).size
    have := h.size
    rw [Array.size_append]
    omega
  · show ((w.drewN k).heap ++ os)[b]? = _
    have := h.size
    rw [Array.getElem?_append_left (by omega)]
    exact h.block b hb
theorem repeat_zeros : ∀ k : Nat, Lib.repeatL [48] k = zerosS k := by
  intro k
  induction k with
  | zero => rfl
  | succ k ih => simp [Lib.repeatL, zerosS, List.replicate_succ] at ih ⊢; try exact ih
theorem lst_add (a b : ByteArray) : lst (a ++ b) = lst a ++ lst b := by simp [lst]
def StrOut (l : Str) (w : World) (e : Ending) (w' : World) : Prop := (∃ R : ByteArray, e = .returned (.string R) ∧ lst R = l) ∧ Below w.heap.size w w'
set_option maxHeartbeats 4000000 in
set_option maxRecDepth 100000 in
theorem after_any (P : ByteArray) (num wd n : Nat) (hP : P.size ≤ 16) (hn : num + n ≤ 1000000000000000000) (hw : wd ≤ 16) (w : World) (hE : Env w) :
    Calls Tryz.prog 127 #[.agg #[.string P, .int .i64 (num : Int), .int .i64 (wd : Int)], .int .i64 (n : Int)] w (StrOut (lst P ++ wrS (num + n) wd) w) := by
  have e1 : IntKind.i64.wrap ((num : Int) + (n : Int)) = ((num + n : Nat) : Int) := by rw [IntWalk.i64_in _ (by omega)]; omega
  have hlen := dec_len (num + n) 19 (by have : (10 : Nat) ^ 19 = 10000000000000000000 := by decide
                                        omega) (by omega)
  have cI := Tryz.strconv_Itoa ((num + n : Nat) : Int) (by omega) (by omega)
  obtain ⟨N, hN⟩ : ∃ N : ByteArray, (⟨(Lib.itoa ((num + n : Nat) : Int)).toArray⟩ : ByteArray) = N := ⟨_, rfl⟩
  have hNl : lst N = decDigits (num + n) := by
    rw [← hN]
    show Lib.itoa ((num + n : Nat) : Int) = _
    unfold Lib.itoa
    rw [if_neg (by omega), Int.toNat_natCast]
  rw [hN] at cI
  have hNs : N.size = (decDigits (num + n)).length := by rw [← hNl]; exact Lib.size_eq N
  have HN := hid hNl
  have HNS := hid hNs
  have hNs2 : N.size ≤ 19 := by omega
  have CI := hid cI
  have HE := hid hE
  obtain ⟨M, hM⟩ : ∃ M, num + n = M := ⟨_, rfl⟩
  rw [hM] at e1 CI HN HNS ⊢
  clear hN hNl hNs cI hE hlen
  go_enter Tryz.func127, Tryz.ntmps127
  have hba : Below w.heap.size w (w.alloc (.cells #[.string P, .int .i64 (num : Int), .int .i64 (wd : Int)] 158)) := (Below.refl _ w).alloc (Nat.le_refl _) _
  have hz0 : (w.alloc (.cells #[.string P, .int .i64 (num : Int), .int .i64 (wd : Int)] 158)).heap[w.heap.size]? = some (.cells #[.string P, .int .i64 (num : Int), .int .i64 (wd : Int)] 158 (0, 0)) := heap_alloc_new w _
  have hzs : w.heap.size < (w.alloc (.cells #[.string P, .int .i64 (num : Int), .int .i64 (wd : Int)] 158)).heap.size := by simp
  have HBA := hid hba
  have HZ0 := hid hz0
  clear hba hz0
  go_wp2_with fail
  generalize w.alloc (.cells #[.string P, .int .i64 (num : Int), .int .i64 (wd : Int)] 158) = w1 at HBA HZ0 hzs ⊢
  refine (CI.out _ ((HE.out.below HBA.out).tab)).mono ?_
  rintro e w2 ⟨rfl, k, os, hw2⟩
  have hb2 : Below w1.heap.size w1 w2 := by rw [hw2]; exact grow_below _ _ _
  have hz2 := (hb2.block _ hzs).trans HZ0.out
  have HB2 := hid (HBA.out.trans (hb2.mono HBA.out.size))
  have c0 : w2.cell? ⟨w.heap.size, 0, none⟩ = some (.string P) := by rw [Lib.cell_of_heap hz2]; rfl
  have c1 : w2.cell? ⟨w.heap.size, 1, none⟩ = some (.int .i64 (num : Int)) := by rw [Lib.cell_of_heap hz2]; rfl
  have c2 : w2.cell? ⟨w.heap.size, 2, none⟩ = some (.int .i64 (wd : Int)) := by rw [Lib.cell_of_heap hz2]; rfl
  have hzs2 : w.heap.size < w2.heap.size := Nat.lt_of_lt_of_le hzs hb2.size
  have HZ2 := hid hz2
  obtain ⟨z, hz, hz16⟩ : ∃ z : Nat, z = wd - N.size ∧ z ≤ 16 := ⟨_, rfl, by omega⟩
  have hmax : max 0 ((wd : Int) - (N.size : Int)) = (z : Int) := by omega
  have HZ := hid hz
  clear hw2 hb2 hz2 hz HBA HZ0 CI HE hzs
  obtain ⟨Z, hZ⟩ : ∃ Z : ByteArray, (⟨(Lib.repeatL (⟨#[48]⟩ : ByteArray).data.toList z).toArray⟩ : ByteArray) = Z := ⟨_, rfl⟩
  have hZl : lst Z = zerosS z := by rw [← hZ]; exact repeat_zeros z
  have hZs : Z.size = z := by rw [show Z.size = (lst Z).length from Lib.size_eq Z, hZl]; simp [zerosS]
  have cR := fun w => Tryz.strings_Repeat ⟨#[48]⟩ z w (by omega) (by rw [show (⟨#[48]⟩ : ByteArray).size = 1 from rfl]; omega)
  rw [hZ] at cR
  have add1 : ∀ w, (Op.stringOp .add P Z).run Tryz.prog w = .ok (.string (P ++ Z)) w := fun w => run_string_add_sum (w := w) _ _ (by omega)
  have add2 : ∀ w, (Op.stringOp .add (P ++ Z) N).run Tryz.prog w = .ok (.string (P ++ Z ++ N)) w := fun w => run_string_add_sum (w := w) _ _ (by rw [ByteArray.size_append]; omega)
  have hfin : Hid (lst (P ++ Z ++ N) = lst P ++ wrS M wd) := hid (by
    rw [lst_add, lst_add, hZl, HN.out, List.append_assoc]
    unfold wrS
    rw [← HNS.out, HZ.out])
  clear hZ hZl hZs c1
  go_wp2_with fail
  try rw [hmax]
  clear hmax c2 hz16 hNs2
  go_region_held3 (fun w' => w'.cell? ⟨w.heap.size, 0, none⟩ = some (.string P)) (go_keep) (first | (go_at_call 151; refine (cR _).mono ?_; rintro e w' ⟨rfl, hb'⟩; have c0' := (hb'.cell (p := ⟨w.heap.size, 0, none⟩) hzs2).trans c0; have HB' := hid hb'))
  all_goals
    go_wp2
    go_ret
    exact ⟨⟨_, rfl, hfin.out⟩, HB2.out.trans (((Below.refl w.heap.size w2).drew).trans (HB'.out.mono HB2.out.size))⟩
end Go.Proofs.YtlgmanbilaminaaGreatDoor.S3
