/-
  Classes as data, and in memory: slices of structs that came in, or that the call made. No program beyond the types' facts.
  The parts of a list: the library's strings.SplitSeq at any one sign (its iterator, over whatever body the loop has). Condition: the string has fewer than 2^62 bytes.
  Reading classes, as mathematics: parts, fields, entries, lists of records. No program.
  A class alone, lists of classes, what is written: mathematics. No program.
  Reading a number of at most four digits, zeros in front among them: ReadPadded of numerals. Condition: the library's variable holds an error.
-/
import Derived.Test.YtigdcgklpapfbaaGreatDoorVR16
set_option linter.unusedVariables false
namespace Go.Proofs.YtigdcgklpapfbaaGreatDoor.S10
open Go Go.Proofs Go.RowKit Go.Lib Go.Proofs.YtigdcgklpapfbaaGreatDoor

abbrev StartD := Int × Int
def startVs (t : StartD) : List Value := [.int .i64 t.1, .int .i64 t.2]
def startVals (l : List StartD) : List Value := l.flatMap startVs
theorem startVals_app (a b : List StartD) : startVals (a ++ b) = startVals a ++ startVals b := by simp [startVals]
theorem startVals_len : ∀ l : List StartD, (startVals l).length = l.length * 2
  | [] => rfl
  | t :: r => by
    have := startVals_len r
    unfold startVals at this ⊢
    rw [List.flatMap_cons, List.length_append, this, List.length_cons]
    show 2 + _ = _
    omega
theorem startVals_get : ∀ (l : List StartD) (j : Nat) (t : StartD), l[j]? = some t → ∀ (i : Nat) (v : Value), (startVs t)[i]? = some v → (startVals l)[j * 2 + i]? = some v
  | [], j, t, h, _, _, _ => by simp at h
  | a :: r, 0, t, h, i, v, hv => by
    simp at h
    subst h
    have hi : i < 2 := (List.getElem?_eq_some_iff.1 hv).1
    unfold startVals
    rw [List.flatMap_cons, List.getElem?_append_left (by show _ < 2; omega)]
    simpa using hv
  | a :: r, j + 1, t, h, i, v, hv => by
    have := startVals_get r j t (by simpa using h) i v hv
    unfold startVals at this ⊢
    rw [List.flatMap_cons, List.getElem?_append_right (by show 2 ≤ _; omega)]
    show (List.flatMap _ r)[(j + 1) * 2 + i - 2]? = _
    rw [show (j + 1) * 2 + i - 2 = j * 2 + i by omega]
    exact this
theorem startVals_one : ∀ (l : List StartD), ∀ u ∈ startVals l, u.oneCell' = true := by
  intro l u hu
  obtain ⟨t, _, h⟩ := List.mem_flatMap.1 hu
  simp [startVs] at h
  rcases h with rfl | rfl <;> rfl
theorem infoStart : (Tryz.prog.info? 74).map (fun i => (i.zero, i.size, i.bytes)) = some (some (.agg #[.int .i64 0, .int .i64 0]), 2, 16) := by kernel_rfl
/-- A row of starts that the call owns. -/
def StartRow (w : World) (B : Nat) (v : Value) (l : List StartD) : Prop := w.ownsRow B 74 2 v l.length (startVals l)

/-- The slice at A leads to the cells vs, in a block with P. -/
def FlatIn (w : World) (P : Nat → Prop) (A : Option Addr) (vs : List Value) : Prop := vs = [] ∨ ∃ b off, A = some ⟨b, off, none⟩ ∧ P b ∧ ∀ (i : Nat) (v : Value), vs[i]? = some v → w.cell? ⟨b, off + i, none⟩ = some v
theorem FlatIn.nil (w : World) (P : Nat → Prop) (A : Option Addr) : FlatIn w P A [] := .inl rfl
theorem FlatIn.kept {w w' : World} {P : Nat → Prop} {A : Option Addr} {l : List Value} (h : FlatIn w P A l) (hk : ∀ b, P b → w'.heap[b]? = w.heap[b]?) : FlatIn w' P A l := by
  rcases h with h | ⟨b, off, hA, hP, hc⟩
  · exact .inl h
  · exact .inr ⟨b, off, hA, hP, fun i v hv => (World.cell?_of_block (w := w) (hk b hP)).trans (hc i v hv)⟩
theorem FlatIn.mono {w : World} {P P' : Nat → Prop} {A : Option Addr} {l : List Value} (h : FlatIn w P A l) (hP : ∀ b, P b → P' b) : FlatIn w P' A l := by
  rcases h with h | ⟨b, off, hA, hb, hc⟩
  · exact .inl h
  · exact .inr ⟨b, off, hA, hP b hb, hc⟩
theorem FlatIn.below {w w' : World} {B : Nat} {A : Option Addr} {l : List Value} (h : FlatIn w (fun b => b < B) A l) (hb : Below B w w') : FlatIn w' (fun b => b < B) A l := h.kept fun b hB => hb.block b hB
theorem FlatIn.ofRow {w : World} {B e z n : Nat} {v : Value} {vs : List Value} (h : w.ownsRow B e z v n vs) (hz : vs.length = n * z) : ∃ A c, v = .slice A n c ∧ n ≤ c ∧ c ≤ 9223372036854775807 ∧ FlatIn w (fun b => B ≤ b ∧ b < w.heap.size) A vs := by
  have h' := h
  rcases h.2 with ⟨hv, h0⟩ | ⟨g, cap, cur, hv, hB, hg, h1, h2, _⟩
  · subst h0
    exact ⟨none, 0, hv, Nat.le_refl _, by omega, .inl (List.eq_nil_of_length_eq_zero (by simpa using hz))⟩
  · refine ⟨_, cap, hv, h1, by unfold maxLen at h2; omega, .inr ⟨g, 0, rfl, ⟨hB, (Array.getElem?_eq_some_iff.1 hg).1⟩, fun j v' hv' => ?_⟩⟩
    have := World.ownsRow.cells h' (g := g) (by rw [hv]; rfl) j v' hv'
    rwa [Addr.add_lit] at this
abbrev NumsIn (w : World) (P : Nat → Prop) (A : Option Addr) (l : List Int) : Prop := FlatIn w P A (intVals l)
abbrev StartsIn (w : World) (P : Nat → Prop) (A : Option Addr) (l : List StartD) : Prop := FlatIn w P A (startVals l)
theorem FlatIn.num {w : World} {P : Nat → Prop} {A : Option Addr} {l : List Int} (h : NumsIn w P A l) {k : Nat} (hk : k < l.length) : ∃ b off, A = some ⟨b, off, none⟩ ∧ P b ∧ w.cell? ⟨b, off + k, none⟩ = some (.int .i64 (l[k])) := by
  rcases h with h | ⟨b, off, hA, hP, hc⟩
  · simp [intVals] at h; subst h; simp at hk
  · exact ⟨b, off, hA, hP, hc k _ (by simp [intVals, hk])⟩
theorem FlatIn.intsIn {w : World} {B : Nat} {A : Option Addr} {l : List Int} (h : NumsIn w (fun b => b < B) A l) : IntsIn w B A l := by
  rcases h with h | ⟨b, off, hA, hP, hc⟩
  · simp [intVals] at h; exact .inl h
  · exact .inr ⟨b, off, hA, hP, fun j v hj => hc j _ (by simp [intVals, hj])⟩
theorem FlatIn.start {w : World} {P : Nat → Prop} {A : Option Addr} {l : List StartD} (h : StartsIn w P A l) {k : Nat} (hk : k < l.length) : ∃ b off, A = some ⟨b, off, none⟩ ∧ P b ∧ w.cell? ⟨b, off + k * 2, none⟩ = some (.int .i64 (l[k]).1) ∧ w.cell? ⟨b, off + k * 2 + 1, none⟩ = some (.int .i64 (l[k]).2) := by
  rcases h with h | ⟨b, off, hA, hP, hc⟩
  · have := startVals_len l
    rw [h] at this
    simp at this
    omega
  · have hg := List.getElem?_eq_getElem hk
    exact ⟨b, off, hA, hP, hc (k * 2) _ (startVals_get l k _ hg 0 _ rfl), by have := hc (k * 2 + 1) _ (startVals_get l k _ hg 1 _ rfl); rwa [← Nat.add_assoc] at this⟩

structure ClassD where
  code : Str
  course : Str
  part : Str
  len : Int
  pats : List Int
  seats : Int
  feats : List Str
  staff : List Str
  starts : List StartD
structure ClassA where
  aP : Option Addr
  cP : Nat
  aF : Option Addr
  cF : Nat
  aS : Option Addr
  cS : Nat
  aT : Option Addr
  cT : Nat
def clsVs (x : ClassD) (q : ClassA) : List Value := [.string (ba x.code), .string (ba x.course), .string (ba x.part), .int .i64 x.len, .slice q.aP x.pats.length q.cP, .int .i64 x.seats, .slice q.aF x.feats.length q.cF, .slice q.aS x.staff.length q.cS, .slice q.aT x.starts.length q.cT]
def clsV (x : ClassD) (q : ClassA) : Value := .agg #[.string (ba x.code), .string (ba x.course), .string (ba x.part), .int .i64 x.len, .slice q.aP x.pats.length q.cP, .int .i64 x.seats, .slice q.aF x.feats.length q.cF, .slice q.aS x.staff.length q.cS, .slice q.aT x.starts.length q.cT]
/-- What a class's slices lead to. -/
structure ClassIn (w : World) (P : Nat → Prop) (x : ClassD) (q : ClassA) : Prop where
  p : NumsIn w P q.aP x.pats
  f : S3.StrsIn w P q.aF x.feats
  s : S3.StrsIn w P q.aS x.staff
  t : StartsIn w P q.aT x.starts
  p1 : x.pats.length ≤ q.cP
  p2 : q.cP ≤ 9223372036854775807
  f1 : x.feats.length ≤ q.cF
  f2 : q.cF ≤ 9223372036854775807
  s1 : x.staff.length ≤ q.cS
  s2 : q.cS ≤ 9223372036854775807
  t1 : x.starts.length ≤ q.cT
  t2 : q.cT ≤ 9223372036854775807
theorem ClassIn.kept {w w' : World} {P : Nat → Prop} {x : ClassD} {q : ClassA} (h : ClassIn w P x q) (hk : ∀ b, P b → w'.heap[b]? = w.heap[b]?) : ClassIn w' P x q :=
  { h with p := h.p.kept hk, f := h.f.kept hk, s := h.s.kept hk, t := h.t.kept hk }
theorem ClassIn.mono {w : World} {P P' : Nat → Prop} {x : ClassD} {q : ClassA} (h : ClassIn w P x q) (hP : ∀ b, P b → P' b) : ClassIn w P' x q :=
  { h with p := h.p.mono hP, f := h.f.mono hP, s := h.s.mono hP, t := h.t.mono hP }
theorem ClassIn.below {w w' : World} {B : Nat} {x : ClassD} {q : ClassA} (h : ClassIn w (fun b => b < B) x q) (hb : Below B w w') : ClassIn w' (fun b => b < B) x q := h.kept fun b hB => hb.block b hB
/-- Nine cells from a place on. -/
structure Cells9 (w : World) (b o : Nat) (v0 v1 v2 v3 v4 v5 v6 v7 v8 : Value) : Prop where
  c0 : w.cell? ⟨b, o, none⟩ = some v0
  c1 : w.cell? ⟨b, o + 1, none⟩ = some v1
  c2 : w.cell? ⟨b, o + 2, none⟩ = some v2
  c3 : w.cell? ⟨b, o + 3, none⟩ = some v3
  c4 : w.cell? ⟨b, o + 4, none⟩ = some v4
  c5 : w.cell? ⟨b, o + 5, none⟩ = some v5
  c6 : w.cell? ⟨b, o + 6, none⟩ = some v6
  c7 : w.cell? ⟨b, o + 7, none⟩ = some v7
  c8 : w.cell? ⟨b, o + 8, none⟩ = some v8
/-- The class x, as nine cells from a place on. -/
abbrev ClassAt (w : World) (b o : Nat) (x : ClassD) (q : ClassA) : Prop := Cells9 w b o (.string (ba x.code)) (.string (ba x.course)) (.string (ba x.part)) (.int .i64 x.len) (.slice q.aP x.pats.length q.cP) (.int .i64 x.seats) (.slice q.aF x.feats.length q.cF) (.slice q.aS x.staff.length q.cS) (.slice q.aT x.starts.length q.cT)
theorem classAt_of {w : World} {b o : Nat} {x : ClassD} {q : ClassA} (h : ∀ (i : Nat) (v : Value), (clsVs x q)[i]? = some v → w.cell? ⟨b, o + i, none⟩ = some v) : ClassAt w b o x q :=
  ⟨h 0 _ rfl, h 1 _ rfl, h 2 _ rfl, h 3 _ rfl, h 4 _ rfl, h 5 _ rfl, h 6 _ rfl, h 7 _ rfl, h 8 _ rfl⟩
theorem Cells9.kept {w w' : World} {b o : Nat} {v0 v1 v2 v3 v4 v5 v6 v7 v8 : Value} (h : Cells9 w b o v0 v1 v2 v3 v4 v5 v6 v7 v8) (hk : w'.heap[b]? = w.heap[b]?) : Cells9 w' b o v0 v1 v2 v3 v4 v5 v6 v7 v8 := by
  have k : ∀ p, w'.cell? ⟨b, p, none⟩ = w.cell? ⟨b, p, none⟩ := fun p => World.cell?_of_block (w := w) hk
  exact ⟨(k _).trans h.c0, (k _).trans h.c1, (k _).trans h.c2, (k _).trans h.c3, (k _).trans h.c4, (k _).trans h.c5, (k _).trans h.c6, (k _).trans h.c7, (k _).trans h.c8⟩
/-- The slice at A holds the classes l, in blocks with P. -/
def ClassesIn (w : World) (P : Nat → Prop) (A : Option Addr) (l : List ClassD) : Prop :=
  l = [] ∨ ∃ b off, A = some ⟨b, off, none⟩ ∧ P b ∧ ∀ (j : Nat) (x : ClassD), l[j]? = some x → ∃ q, ClassIn w P x q ∧ ∀ (i : Nat) (v : Value), (clsVs x q)[i]? = some v → w.cell? ⟨b, off + j * 9 + i, none⟩ = some v
theorem ClassesIn.kept {w w' : World} {P : Nat → Prop} {A : Option Addr} {l : List ClassD} (h : ClassesIn w P A l) (hk : ∀ b, P b → w'.heap[b]? = w.heap[b]?) : ClassesIn w' P A l := by
  rcases h with h | ⟨b, off, hA, hP, hc⟩
  · exact .inl h
  · refine .inr ⟨b, off, hA, hP, fun j r hj => ?_⟩
    obtain ⟨q, h1, h2⟩ := hc j r hj
    exact ⟨q, h1.kept hk, fun i v hv => (World.cell?_of_block (w := w) (hk b hP)).trans (h2 i v hv)⟩
theorem ClassesIn.mono {w : World} {P P' : Nat → Prop} {A : Option Addr} {l : List ClassD} (h : ClassesIn w P A l) (hP : ∀ b, P b → P' b) : ClassesIn w P' A l := by
  rcases h with h | ⟨b, off, hA, hb, hc⟩
  · exact .inl h
  · refine .inr ⟨b, off, hA, hP b hb, fun j r hj => ?_⟩
    obtain ⟨q, h1, h2⟩ := hc j r hj
    exact ⟨q, h1.mono hP, h2⟩
theorem ClassesIn.below {w w' : World} {B : Nat} {A : Option Addr} {l : List ClassD} (h : ClassesIn w (fun b => b < B) A l) (hb : Below B w w') : ClassesIn w' (fun b => b < B) A l := h.kept fun b hB => hb.block b hB
theorem ClassesIn.at_ {w : World} {P : Nat → Prop} {A : Option Addr} {l : List ClassD} (h : ClassesIn w P A l) {k : Nat} (hk : k < l.length) :
    ∃ b off q, A = some ⟨b, off, none⟩ ∧ P b ∧ ClassIn w P l[k] q ∧ ClassAt w b (off + k * 9) l[k] q := by
  rcases h with h | ⟨b, off, hA, hP, hc⟩
  · subst h; simp at hk
  · obtain ⟨q, h1, h2⟩ := hc k _ (List.getElem?_eq_getElem hk)
    exact ⟨b, off, q, hA, hP, h1, classAt_of h2⟩

/-- A block of nine cells: a class. -/
structure BoxC (w : World) (B : Nat) (a : Array Value) : Prop where
  h : w.heap[B]? = some (.cells a 33 (0, 0))
theorem BoxC.new (w : World) (a : Array Value) : BoxC (w.alloc (.cells a 33)) w.heap.size a := ⟨heap_alloc_new w _⟩
theorem BoxC.lt {w : World} {B : Nat} {a : Array Value} (h : BoxC w B a) : B < w.heap.size := (Array.getElem?_eq_some_iff.1 h.h).1
theorem BoxC.kept {w w' : World} {B : Nat} {a : Array Value} (h : BoxC w B a) (hk : w'.heap[B]? = w.heap[B]?) : BoxC w' B a := ⟨hk.trans h.h⟩
theorem BoxC.below {w w' : World} {B C : Nat} {a : Array Value} (h : BoxC w B a) (hb : Below C w w') (hC : B < C) : BoxC w' B a := h.kept (hb.block B hC)
theorem BoxC.next {w w' : World} {B : Nat} {a : Array Value} (h : BoxC w B a) (hb : Below w.heap.size w w') : BoxC w' B a := h.below hb h.lt
theorem BoxC.cells {w : World} {B : Nat} {v0 v1 v2 v3 v4 v5 v6 v7 v8 : Value} (h : BoxC w B #[v0, v1, v2, v3, v4, v5, v6, v7, v8]) :
    w.cell? ⟨B, 0, none⟩ = some v0 ∧ w.cell? ⟨B, 1, none⟩ = some v1 ∧ w.cell? ⟨B, 2, none⟩ = some v2 ∧ w.cell? ⟨B, 3, none⟩ = some v3 ∧ w.cell? ⟨B, 4, none⟩ = some v4 ∧ w.cell? ⟨B, 5, none⟩ = some v5 ∧ w.cell? ⟨B, 6, none⟩ = some v6 ∧ w.cell? ⟨B, 7, none⟩ = some v7 ∧ w.cell? ⟨B, 8, none⟩ = some v8 := by
  refine ⟨?_, ?_, ?_, ?_, ?_, ?_, ?_, ?_, ?_⟩ <;> (rw [Lib.cell_of_heap h.h]; rfl)
theorem BoxC.free {w : World} {B : Nat} {a : Array Value} (h : BoxC w B a) (j : Nat) : w.frozen? ⟨B, j, none⟩ = false := by simp [World.frozen?, h.h]
theorem BoxC.put {w : World} {B : Nat} {a : Array Value} (h : BoxC w B a) (j : Nat) (u : Value) : BoxC (w.setCell ⟨B, j, none⟩ u) B (a.setIfInBounds j u) := ⟨heap_setCell_same w B j _ _ u h.h⟩
/-- A block of one cell, of whatever type. -/
structure Box1 (w : World) (B : Nat) (T : TypeId) (v : Value) : Prop where
  h : w.heap[B]? = some (.cells #[v] T (0, 0))
theorem Box1.new (w : World) (T : TypeId) (v : Value) : Box1 (w.alloc (.cells #[v] T)) w.heap.size T v := ⟨heap_alloc_new w _⟩
theorem Box1.lt {w : World} {B : Nat} {T : TypeId} {v : Value} (h : Box1 w B T v) : B < w.heap.size := (Array.getElem?_eq_some_iff.1 h.h).1
theorem Box1.kept {w w' : World} {B : Nat} {T : TypeId} {v : Value} (h : Box1 w B T v) (hk : w'.heap[B]? = w.heap[B]?) : Box1 w' B T v := ⟨hk.trans h.h⟩
theorem Box1.below {w w' : World} {B C : Nat} {T : TypeId} {v : Value} (h : Box1 w B T v) (hb : Below C w w') (hC : B < C) : Box1 w' B T v := h.kept (hb.block B hC)
theorem Box1.next {w w' : World} {B : Nat} {T : TypeId} {v : Value} (h : Box1 w B T v) (hb : Below w.heap.size w w') : Box1 w' B T v := h.below hb h.lt
theorem Box1.cell {w : World} {B : Nat} {T : TypeId} {v : Value} (h : Box1 w B T v) : w.cell? ⟨B, 0, none⟩ = some v := by
  rw [Lib.cell_of_heap h.h]; rfl

theorem infoClass : (Tryz.prog.info? 33).map (fun i => (i.zero, i.size, i.bytes)) = some (some (.agg #[.string ⟨#[]⟩, .string ⟨#[]⟩, .string ⟨#[]⟩, .int .i64 0, .slice none 0 0, .int .i64 0, .slice none 0 0, .slice none 0 0, .slice none 0 0]), 9, 160) := by kernel_rfl
/-- Classes that the call owns, with what their slices lead to. -/
def clsVals (l : List (ClassD × ClassA)) : List Value := l.flatMap fun p => clsVs p.1 p.2
theorem clsVals_app (a b : List (ClassD × ClassA)) : clsVals (a ++ b) = clsVals a ++ clsVals b := by simp [clsVals]
theorem clsVals_get : ∀ (l : List (ClassD × ClassA)) (j : Nat) (t : ClassD × ClassA), l[j]? = some t → ∀ (i : Nat) (v : Value), (clsVs t.1 t.2)[i]? = some v → (clsVals l)[j * 9 + i]? = some v
  | [], j, t, h, _, _, _ => by simp at h
  | a :: r, 0, t, h, i, v, hv => by
    simp at h
    subst h
    have hi : i < 9 := (List.getElem?_eq_some_iff.1 hv).1
    unfold clsVals
    rw [List.flatMap_cons, List.getElem?_append_left (by show _ < 9; omega)]
    simpa using hv
  | a :: r, j + 1, t, h, i, v, hv => by
    have := clsVals_get r j t (by simpa using h) i v hv
    unfold clsVals at this ⊢
    rw [List.flatMap_cons, List.getElem?_append_right (by show 9 ≤ _; omega)]
    show (List.flatMap _ r)[(j + 1) * 9 + i - 9]? = _
    rw [show (j + 1) * 9 + i - 9 = j * 9 + i by omega]
    exact this
theorem cls_one (x : ClassD) (q : ClassA) : ∀ u ∈ clsVs x q, u.oneCell' = true := by
  intro u h
  simp [clsVs] at h
  rcases h with rfl | rfl | rfl | rfl | rfl | rfl | rfl | rfl | rfl <;> rfl
/-- The classes l in a row of the call's own; what they lead to lies in blocks with P. -/
def ClassRow (w : World) (B : Nat) (P : Nat → Prop) (v : Value) (l : List ClassD) : Prop := ∃ L : List (ClassD × ClassA), L.map (·.1) = l ∧ w.ownsRow B 33 9 v l.length (clsVals L) ∧ ∀ p ∈ L, ClassIn w P p.1 p.2
theorem ClassRow.classesIn {w : World} {B : Nat} {P : Nat → Prop} {v : Value} {l : List ClassD} (h : ClassRow w B P v l) : ∃ A c, v = .slice A l.length c ∧ l.length ≤ c ∧ c ≤ 9223372036854775807 ∧ ClassesIn w (fun b => P b ∨ (B ≤ b ∧ b < w.heap.size)) A l := by
  obtain ⟨L, rfl, h, hL⟩ := h
  have h' := h
  rcases h.2 with ⟨hv, h0⟩ | ⟨g, cap, cur, hv, hB, hg, h1, h2, _⟩
  · have hl : L.map (·.1) = [] := List.eq_nil_of_length_eq_zero h0
    rw [hl]
    exact ⟨none, 0, by rw [hv]; rfl, Nat.le_refl _, by omega, .inl rfl⟩
  · refine ⟨_, cap, hv, h1, by unfold maxLen at h2; omega, .inr ⟨g, 0, rfl, .inr ⟨hB, (Array.getElem?_eq_some_iff.1 hg).1⟩, fun j r hj => ?_⟩⟩
    rw [List.getElem?_map] at hj
    obtain ⟨p, hp, rfl⟩ := Option.map_eq_some_iff.1 hj
    refine ⟨p.2, (hL p (List.mem_of_getElem? hp)).mono (fun b hb => .inl hb), fun i v' hv' => ?_⟩
    have := World.ownsRow.cells h' (g := g) (by rw [hv]; rfl) (j * 9 + i) v' (clsVals_get L j p hp i v' hv')
    rw [Addr.add_lit] at this
    rw [← Nat.add_assoc] at this
    exact this
theorem rowLow {w : World} {e z n B B' : Nat} {v : Value} {xs : List Value} (h : w.ownsRow B e z v n xs) (hB : B' ≤ B) : w.ownsRow B' e z v n xs := by
  obtain ⟨h1, h2⟩ := h
  refine ⟨h1, ?_⟩
  rcases h2 with h2 | ⟨g, cap, cur, hv, hg, r⟩
  · exact .inl h2
  · exact .inr ⟨g, cap, cur, hv, Nat.le_trans hB hg, r⟩
end Go.Proofs.YtigdcgklpapfbaaGreatDoor.S10

set_option linter.unusedVariables false
namespace Go.Proofs.YtigdcgklpapfbaaGreatDoor.S10
open Go Go.Proofs Go.RowKit Go.Lib Go.Proofs.YtigdcgklpapfbaaGreatDoor
attribute [local go_sem] Oper.semAt_some

/-- The parts between the semicolons. -/
def splitC (z : UInt8) : Str → List Str
  | [] => [[]]
  | c :: s => if c = z then [] :: splitC z s else (c :: (splitC z s).headD []) :: (splitC z s).tail
theorem splitC_ne (z : UInt8) (l : Str) : splitC z l ≠ [] := by
  cases l with
  | nil => simp [splitC]
  | cons c s => simp only [splitC]; split <;> simp
theorem splitC_none (z : UInt8) : ∀ (l : Str), indexByte l z < 0 → splitC z l = [l]
  | [], _ => rfl
  | c :: s, h => by
    unfold indexByte at h
    split at h
    · omega
    · rename_i hc
      have hge := indexByte_ge s z
      have hs : indexByte s z < 0 := by
        split at h
        · rename_i he; have := beq_iff_eq.1 he; omega
        · omega
      simp only [splitC, splitC_none z s hs]
      rw [if_neg (fun e => hc (beq_iff_eq.2 e))]
      rfl
theorem splitC_at (z : UInt8) : ∀ (l : Str) (i : Nat), indexByte l z = i → splitC z l = l.take i :: splitC z (l.drop (i + 1))
  | [], i, h => by simp [indexByte] at h
  | c :: s, i, h => by
    unfold indexByte at h
    split at h
    · rename_i hc
      obtain rfl : i = 0 := by omega
      simp [splitC, beq_iff_eq.1 hc]
    · rename_i hc
      have hge := indexByte_ge s z
      split at h
      · omega
      · obtain ⟨j, rfl⟩ : ∃ j, i = j + 1 := ⟨i - 1, by
          rename_i he
          have : indexByte s z ≠ -1 := fun e => he (beq_iff_eq.2 e)
          omega⟩
        have ih := splitC_at z s j (by omega)
        simp only [splitC, ih]
        rw [if_neg (fun e => hc (beq_iff_eq.2 e))]
        rfl
theorem index_ltC (z : UInt8) (l : Str) (i : Nat) (h : indexByte l z = i) : i < l.length := by
  have := (indexByte_some h).1
  rcases Nat.lt_or_ge i l.length with h' | h'
  · exact h'
  · rw [List.getElem?_eq_none h'] at this; cases this

abbrev St := List Str × ByteArray
def cellLen (B : Nat) (w : World) : Nat := match w.cell? ⟨B, 0, none⟩ with | some (.string r) => r.size | _ => 0
theorem cellLen_of {B : Nat} {w : World} {r : ByteArray} (h : w.cell? ⟨B, 0, none⟩ = some (.string r)) : cellLen B w = r.size := by unfold cellLen; rw [h]
/-- What the iterator's variables hold. -/
structure SplitVars (z : UInt8) (B : Nat) (r : ByteArray) (W : World) : Prop where
  s : W.cell? ⟨B, 0, none⟩ = some (.string r)
  fz : W.frozen? ⟨B, 0, none⟩ = false
  sep : W.cell? ⟨B + 1, 0, none⟩ = some (.string ⟨#[z]⟩)
  save : W.cell? ⟨B + 2, 0, none⟩ = some (.int .i64 0)

set_option maxHeartbeats 4000000 in
set_option maxRecDepth 100000 in
theorem split_iter (z : UInt8) (n : Nat) (B : Nat) (s : ByteArray) (hs : s.size ≤ 4611686018427387904) (I : St → World → Prop) (hc : ∀ st W, I st W → SplitVars z B st.2 W)
    (hset : ∀ st r W, I st W → I (st.1, r) (W.setCell ⟨B, 0, none⟩ (.string r))) :
    S3.IterAt n Tryz.prog 229 #[.pointer (some ⟨B + 1, 0, none⟩), .pointer (some ⟨B, 0, none⟩), .pointer (some ⟨B + 2, 0, none⟩)] B
      (fun st x => ∃ rest, splitC z (lst s) = st.1 ++ lst x :: rest) (fun st x => (st.1 ++ [lst x], st.2)) (fun st => st.1 = splitC z (lst s)) I ([], s) := by
  intro l J Jx W hJI hJs hY h0
  refine callsIn_of_wp Tryz.func229 rfl trivial ?_ rfl
  simp only [Tryz.ntmps229, List.size_toArray, List.length_cons, List.length_nil, Nat.reduceAdd, Nat.reduceSub, Array.replicate_succ, Array.replicate_zero, List.push_toArray, List.append_toArray, List.nil_append, List.cons_append]
  obtain ⟨c1, c2, c3, c4⟩ := hc _ _ (hJI _ _ h0)
  gi_wp2
  gi_loopw [] (fun wr => ∃ (pre : List Str) (r : ByteArray), splitC z (lst s) = pre ++ splitC z (lst r) ∧ r.size ≤ s.size ∧ J (pre, r) wr) (fun wr => cellLen B wr)
  case atStart => exact ⟨[], s, rfl, Nat.le_refl _, h0⟩
  case round =>
    obtain ⟨pre, r, hsp, hrs, hJ⟩ := hrel
    obtain ⟨d1, d2, d3, d4⟩ := hc _ _ (hJI _ _ hJ)
    have hmu := cellLen_of d1
    have cI := Tryz.strings_Index_one r z wr
    have hge := indexByte_ge r.data.toList z
    by_cases hneg : indexByte r.data.toList z < 0
    · obtain ⟨fn, tmps, assign, body, hy, hR⟩ := hY (pre, r) r wr hJ ⟨[], by rw [hsp, splitC_none z _ hneg]⟩
      gi_wp2_with fail
      refine ⟨trivial, fun h => (by cases h), ?_⟩
      refine (callsIn_wide.2 cI).mono ?_
      rintro e w' ⟨rfl, rfl⟩
      gi_wp2
      refine ⟨fun h => (by cases h), ?_⟩
      refine hR.mono ?_
      rintro e W3 (⟨rfl, hJ3⟩ | ⟨rfl, hJ3⟩)
      · gi_wp2
        go_end0
        exact ⟨⟨_, rfl⟩, .inl ⟨_, by rw [hsp, splitC_none z _ hneg], hJ3⟩⟩
      · gi_wp2
        go_end0
        exact ⟨⟨_, rfl⟩, .inr hJ3⟩
    · obtain ⟨i, hi⟩ : ∃ i : Nat, indexByte r.data.toList z = i := ⟨(indexByte r.data.toList z).toNat, by omega⟩
      have hil : i < r.size := by rw [Lib.size_eq]; exact index_ltC z _ _ hi
      have hsa := splitC_at z (lst r) i hi
      rw [hi] at cI
      clear hneg hge
      obtain ⟨fn, tmps, assign, body, hy, hR⟩ := hY (pre, r) (r.extract 0 i) wr hJ ⟨_, by rw [hsp, hsa, lst_extract]; rfl⟩
      gi_wp2_with fail
      refine ⟨trivial, fun h => (by cases h), ?_⟩
      refine (callsIn_wide.2 cI).mono ?_
      rintro e w' ⟨rfl, rfl⟩
      gi_wp2
      refine ⟨fun h => (by cases h), ?_⟩
      refine hR.mono ?_
      rintro e W3 (⟨rfl, hJ3⟩ | ⟨rfl, hJ3⟩)
      · obtain ⟨e1, e2, e3, e4⟩ := hc _ _ (hJI _ _ hJ3)
        dsimp only at e1
        gi_wp2
        obtain ⟨R, hR2⟩ : ∃ R : ByteArray, r.extract (i + 1) r.size = R := ⟨_, rfl⟩
        have hlR : lst R = (lst r).drop (i + 1) := by rw [← hR2, lst_extract, List.take_of_length_le (by rw [← Lib.size_eq]; exact Nat.le_refl _)]
        have hRs : R.size < r.size := by rw [← hR2, ByteArray.size_extract]; omega
        rw [hR2, hmu]
        have hset2 := hset _ R _ (hJI _ _ hJ3)
        refine ⟨⟨pre ++ [lst (r.extract 0 i)], R, ?_, by omega, hJs _ _ _ _ hJ3 hset2⟩, ?_⟩
        · rw [hsp, hsa, lst_extract, hlR]
          simp
        · rw [cellLen_of (hc _ _ hset2).s]
          exact hRs
      · gi_wp2
        refine bodyPost_ret (results_none rfl _ _ _) rfl ?_
        exact ⟨⟨_, rfl⟩, .inr hJ3⟩

theorem splitC_mem (z : UInt8) : ∀ (l : Str) (p : Str), p ∈ splitC z l → p.length ≤ l.length
  | [], p, h => by simp [splitC] at h; simp [h]
  | c :: s, p, h => by
    have ih := splitC_mem z s
    simp only [splitC] at h
    split at h
    · rcases List.mem_cons.1 h with h | h
      · subst h; simp
      · have := ih p h; simp; omega
    · have hne := splitC_ne z s
      obtain ⟨a, t, hat⟩ : ∃ a t, splitC z s = a :: t := by cases hs : splitC z s with | nil => exact absurd hs hne | cons a t => exact ⟨a, t, rfl⟩
      rw [hat] at h ih
      simp only [List.headD_cons, List.tail_cons] at h
      rcases List.mem_cons.1 h with h | h
      · subst h; have := ih a (by simp); simp; omega
      · have := ih p (by simp [h]); simp; omega
theorem splitC_len (z : UInt8) : ∀ l : Str, (splitC z l).length ≤ l.length + 1
  | [] => by simp [splitC]
  | c :: r => by
    have ih := splitC_len z r
    unfold splitC
    split
    · simp; omega
    · simp
      omega
end Go.Proofs.YtigdcgklpapfbaaGreatDoor.S10

set_option linter.unusedVariables false
namespace Go.Proofs.YtigdcgklpapfbaaGreatDoor.S10
open Go Go.Proofs Go.RowKit Go.Lib Go.Proofs.YtigdcgklpapfbaaGreatDoor

/-! ### parts -/
def partsGo {α : Type} (f : Str → α × Int) : List Str → List α → List α × Int
  | [], acc => (acc, 0)
  | p :: ps, acc => if (f p).2 ≠ 0 then ([], (f p).2) else partsGo f ps (acc ++ [(f p).1])
def partsM {α : Type} (f : Str → α × Int) (z : UInt8) (most : Nat) (x : Str) : List α × Int :=
  if (partsGo f (splitC z x) []).2 ≠ 0 then ([], (partsGo f (splitC z x) []).2)
  else if most < (partsGo f (splitC z x) []).1.length then ([], 2) else ((partsGo f (splitC z x) []).1, 0)
theorem partsGo_app {α : Type} (f : Str → α × Int) : ∀ (ps : List Str) (acc : List α) (qs : List Str), (partsGo f ps acc).2 = 0 → partsGo f (ps ++ qs) acc = partsGo f qs (partsGo f ps acc).1
  | [], acc, qs, _ => rfl
  | p :: ps, acc, qs, h => by
    simp only [partsGo, List.cons_append] at h ⊢
    by_cases hc : (f p).2 = 0
    · rw [if_neg (by simpa using hc)] at h ⊢
      rw [if_neg (by simpa using hc)]
      exact partsGo_app f ps _ qs h
    · rw [if_pos hc] at h
      exact absurd h hc
theorem partsGo_len {α : Type} (f : Str → α × Int) : ∀ (ps : List Str) (acc : List α), (partsGo f ps acc).2 = 0 → (partsGo f ps acc).1.length = acc.length + ps.length
  | [], acc, _ => by simp [partsGo]
  | p :: ps, acc, h => by
    simp only [partsGo] at h ⊢
    by_cases hc : (f p).2 = 0
    · rw [if_neg (by simpa using hc)] at h ⊢
      rw [partsGo_len f ps _ h]
      simp
      omega
    · rw [if_pos hc] at h
      exact absurd h hc
theorem partsM_most {α : Type} (f : Str → α × Int) (z : UInt8) (most : Nat) (x : Str) : (partsM f z most x).1.length ≤ most := by
  unfold partsM
  split
  · simp
  · split
    · simp
    · simp only; omega
/-- Two elements of a list are equal. -/
def dupB {α : Type} [DecidableEq α] (l : List α) : Bool := !decide l.Nodup
theorem nodup_take {α : Type} {l : List α} {i : Nat} (hi : i < l.length) (h : (l.take i).Nodup) : (l.take (i + 1)).Nodup ↔ l[i] ∉ l.take i := by
  rw [List.take_succ_eq_append_getElem hi, List.nodup_append]
  constructor
  · intro k hm
    exact k.2.2 _ hm _ (by simp) rfl
  · intro k
    refine ⟨h, by simp, fun a ha b hb e => ?_⟩
    rw [List.mem_singleton] at hb
    subst hb
    subst e
    exact k ha
theorem nodup_pre {α : Type} {l : List α} (i : Nat) (h : l.Nodup) : (l.take i).Nodup := h.sublist (List.take_sublist _ _)

/-! ### fields -/
def lenM (s : Int) (x : Str) : Int × Int := if smallN x = 0 then (0, 4) else if s < (smallN x : Int) then (0, 3) else ((smallN x : Int), 0)
def patM (n : Int) (p : Str) : Int × Int := (((parseM p n).1 : Nat), (parseM p n).2)
def patsM (n : Int) (x : Str) : List Int × Int :=
  if (partsM (patM n) 47 8 x).2 ≠ 0 then ([], (partsM (patM n) 47 8 x).2) else if dupB (partsM (patM n) 47 8 x).1 = true then ([], 11) else ((partsM (patM n) 47 8 x).1, 0)
/-- A number of at most four digits. -/
def numF (s : Str) : Int × Bool := if s ≠ [] ∧ s.length ≤ 4 ∧ s.all S3.dg = true then (((S3.numN s : Nat) : Int), true) else (0, false)
def seatsF (x : Str) : Int × Int := if (numF x).2 = false then (0, 4) else ((numF x).1, 0)
def startM (d s b m len : Int) (p : Str) : StartD × Int :=
  if smallN (aft 32 p) = 0 then ((0, 0), 4)
  else if (timeM d s b m 1 p).2 ≠ 0 then ((0, 0), (timeM d s b m 1 p).2)
  else if fitsM d s b m 1 1 (timeM d s b m 1 p).1.2.1 (timeM d s b m 1 p).1.2.2.1 len ≠ 0 then ((0, 0), 14)
  else (((timeM d s b m 1 p).1.2.1, (timeM d s b m 1 p).1.2.2.1), 0)
/-- By day, then by slot. -/
def leS (a b : StartD) : Bool := decide (a.1 < b.1 ∨ (a.1 = b.1 ∧ a.2 ≤ b.2))
def sortT (l : List StartD) : List StartD := l.mergeSort leS
theorem sortT_len (l : List StartD) : (sortT l).length = l.length := List.length_mergeSort l
def startsM (d s b m len : Int) (x : Str) : List StartD × Int :=
  if x = [] then ([], 0) else if (partsM (startM d s b m len) 59 24 x).2 ≠ 0 then ([], (partsM (startM d s b m len) 59 24 x).2)
  else if dupB (partsM (startM d s b m len) 59 24 x).1 = true then ([], 11) else (sortT (partsM (startM d s b m len) 59 24 x).1, 0)
def setF (d s b m n : Int) (i : Nat) (x : Str) (r : ClassD) : ClassD × Int :=
  match i with
  | 0 => if S3.validC x = true then ({ r with code := x }, 0) else ({ r with code := [] }, 10)
  | 1 => if S3.validC x = true then ({ r with course := x }, 0) else ({ r with course := [] }, 10)
  | 2 => if S3.validC x = true then ({ r with part := x }, 0) else ({ r with part := [] }, 10)
  | 3 => ({ r with len := (lenM s x).1 }, (lenM s x).2)
  | 4 => ({ r with pats := (patsM n x).1 }, (patsM n x).2)
  | 5 => ({ r with seats := (seatsF x).1 }, (seatsF x).2)
  | 6 => ({ r with feats := (featsM x).1 }, (featsM x).2)
  | 7 => ({ r with staff := (featsM x).1 }, (featsM x).2)
  | 8 => ({ r with starts := (startsM d s b m r.len x).1 }, (startsM d s b m r.len x).2)
  | _ => (r, 0)
def zeroC : ClassD := ⟨[], [], [], 0, [], 0, [], [], []⟩
def efold (d s b m n : Int) : List FieldD → Nat → ClassD → ClassD × Int × Int
  | [], _, r => (r, 0, 0)
  | f :: fs, i, r => if (setF d s b m n i f.1 r).2 ≠ 0 then ((setF d s b m n i f.1 r).1, f.2.1, (setF d s b m n i f.1 r).2) else efold d s b m n fs (i + 1) (setF d s b m n i f.1 r).1
/-- A class out of the fields of a record; the column of the field in question; the error. -/
def entryM (d s b m n : Int) (fs : List FieldD) : ClassD × Int × Int := if fs.length ≠ 9 then (zeroC, 0, 9) else efold d s b m n fs 0 zeroC
theorem efold_step (d s b m n : Int) (fs : List FieldD) (i : Nat) (h : i < fs.length) (r : ClassD) :
    efold d s b m n (fs.drop i) i r = if (setF d s b m n i fs[i].1 r).2 ≠ 0 then ((setF d s b m n i fs[i].1 r).1, fs[i].2.1, (setF d s b m n i fs[i].1 r).2) else efold d s b m n (fs.drop (i + 1)) (i + 1) (setF d s b m n i fs[i].1 r).1 := by
  rw [List.drop_eq_getElem_cons h, efold]
def codesK (l : List ClassD) : List Str := l.map (·.code)
def addC (l : List ClassD) (c : Str) : Int := if c ∈ codesK l then 11 else if l.length = 24 then 2 else 0
/-- One record more. -/
def recM (d s b m n : Int) (st : List ClassD × List ProbD) (x : RecD) : List ClassD × List ProbD :=
  if (entryM d s b m n x.2).2.2 ≠ 0 then (st.1, st.2 ++ [(x.1, (entryM d s b m n x.2).2.1, (entryM d s b m n x.2).2.2)])
  else if addC st.1 (entryM d s b m n x.2).1.code ≠ 0 then (st.1, st.2 ++ [(x.1, (entryM d s b m n x.2).2.1, addC st.1 (entryM d s b m n x.2).1.code)])
  else (st.1 ++ [(entryM d s b m n x.2).1], st.2)
def recsM (d s b m n : Int) (l : List RecD) : List ClassD × List ProbD := l.foldl (recM d s b m n) ([], [])
def readM (d s b m n : Int) (l : List RecD) : List ClassD × List ProbD := if frameB d s b m n = true then recsM d s b m n l else ([], [(0, 0, 1)])
theorem recsM_take (d s b m n : Int) (l : List RecD) (i : Nat) (h : i < l.length) : recsM d s b m n (l.take (i + 1)) = recM d s b m n (recsM d s b m n (l.take i)) l[i] := by
  unfold recsM
  rw [List.take_succ_eq_append_getElem h, List.foldl_append]
  rfl
theorem recM_room_len (d s b m n : Int) (st : List ClassD × List ProbD) (x : RecD) (h : st.1.length ≤ 24) : (recM d s b m n st x).1.length ≤ 24 := by
  unfold recM
  split
  · exact h
  · split
    · exact h
    · rename_i h2
      unfold addC at h2
      by_cases h3 : (entryM d s b m n x.2).1.code ∈ codesK st.1
      · rw [if_pos h3] at h2; simp at h2
      · rw [if_neg h3] at h2
        by_cases h4 : st.1.length = 24
        · rw [if_pos h4] at h2; simp at h2
        · simp; omega
theorem recsM_len (d s b m n : Int) (l : List RecD) : (recsM d s b m n l).1.length ≤ 24 := by
  unfold recsM
  have : ∀ (l : List RecD) (st : List ClassD × List ProbD), st.1.length ≤ 24 → (l.foldl (recM d s b m n) st).1.length ≤ 24 := by
    intro l
    induction l with
    | nil => exact fun st h => h
    | cons x r ih => exact fun st h => ih _ (recM_room_len d s b m n st x h)
  exact this l _ (by simp)
theorem recsM_probs (d s b m n : Int) (l : List RecD) : (recsM d s b m n l).2.length ≤ l.length := by
  unfold recsM
  have : ∀ (l : List RecD) (st : List ClassD × List ProbD), (l.foldl (recM d s b m n) st).2.length ≤ st.2.length + l.length := by
    intro l
    induction l with
    | nil => exact fun st => Nat.le_refl _
    | cons x r ih =>
      intro st
      rw [List.foldl_cons]
      refine Nat.le_trans (ih _) ?_
      have : (recM d s b m n st x).2.length ≤ st.2.length + 1 := by
        unfold recM
        split
        · simp
        · split <;> simp
      simp
      omega
  simpa using this l ([], [])
def addK (most : Nat) (l : List Str) (c : Str) : List Str × Int := if c ∈ l then (l, 11) else if l.length = most then (l, 2) else (l ++ [c], 0)
/-- The codes of the classes that were read, in the map's words. -/
theorem addM_codes (l : List ClassD) (c : Str) : (addK 24 (codesK l) c).2 = addC l c ∧ (addK 24 (codesK l) c).1 = if addC l c = 0 then codesK l ++ [c] else codesK l := by
  unfold addK addC
  have e : (codesK l).length = l.length := by simp [codesK]
  rw [e]
  by_cases h : c ∈ codesK l
  · rw [if_pos h, if_pos h]; simp
  · rw [if_neg h, if_neg h]
    by_cases h2 : l.length = 24
    · rw [if_pos h2, if_pos h2]; simp
    · rw [if_neg h2, if_neg h2]; simp
end Go.Proofs.YtigdcgklpapfbaaGreatDoor.S10

set_option linter.unusedVariables false
namespace Go.Proofs.YtigdcgklpapfbaaGreatDoor.S10
open Go Go.Proofs Go.RowKit Go.Lib Go.Proofs.YtigdcgklpapfbaaGreatDoor

def ltB (a b : StartD) : Bool := decide (a.1 < b.1 ∨ (a.1 = b.1 ∧ a.2 < b.2))
def okP : Option StartD → StartD → Bool
  | none, _ => true
  | some q, t => ltB q t
/-- Every start is f, and they ascend. -/
def startsGo (f : StartD → Bool) : Option StartD → List StartD → Bool
  | _, [] => true
  | p, t :: r => f t && okP p t && startsGo f (some t) r
def prevAt (l : List StartD) : Nat → Option StartD
  | 0 => none
  | k + 1 => l[k]?
theorem startsGo_bad (f : StartD → Bool) (l : List StartD) (i : Nat) (hi : i < l.length) (h : f l[i] = false) : startsGo f (prevAt l i) (l.drop i) = false := by
  rw [List.drop_eq_getElem_cons hi, startsGo, h]
  simp
theorem startsGo_zero (f : StartD → Bool) (l : List StartD) (hi : 0 < l.length) (h : f l[0] = true) : startsGo f (prevAt l 0) (l.drop 0) = startsGo f (prevAt l 1) (l.drop 1) := by
  rw [List.drop_eq_getElem_cons hi, startsGo, h]
  simp [prevAt, hi, okP]
theorem startsGo_succ (f : StartD → Bool) (l : List StartD) (k : Nat) (hi : k + 1 < l.length) (h : f l[k + 1] = true) : startsGo f (prevAt l (k + 1)) (l.drop (k + 1)) = (ltB (l[k]'(by omega)) l[k + 1] && startsGo f (prevAt l (k + 2)) (l.drop (k + 2))) := by
  rw [List.drop_eq_getElem_cons hi, startsGo, h]
  have e1 : prevAt l (k + 1) = some (l[k]'(by omega)) := List.getElem?_eq_getElem (by omega)
  have e2 : prevAt l (k + 2) = some l[k + 1] := List.getElem?_eq_getElem hi
  rw [e1, e2]
  simp [okP]
def fitS (d s b m len : Int) (t : StartD) : Bool := decide (fitsM d s b m 1 1 t.1 t.2 len = 0)
def startsB (d s b m len : Int) (l : List StartD) : Bool := startsGo (fitS d s b m len) none l
def patsB (n : Int) (l : List Int) : Bool := l.all (fun p => validM p n) && !dupB l
/-- The first error of a class alone. -/
def checkM (d s b m n : Int) (x : ClassD) : Int :=
  if S3.validC x.code = false ∨ S3.validC x.course = false ∨ S3.validC x.part = false then 10
  else if decide (1 ≤ x.len ∧ x.len ≤ s) = false then 3
  else if x.pats.length = 0 then 16
  else if 8 < x.pats.length then 2
  else if patsB n x.pats = false then 1
  else if x.seats < 0 ∨ 9999 < x.seats then 3
  else if 8 < x.feats.length ∨ 8 < x.staff.length then 2
  else if featB x.feats = false ∨ featB x.staff = false then 10
  else if 24 < x.starts.length then 2
  else if startsB d s b m x.len x.starts = false then 14
  else 0
def goK (d s b m n : Int) : List Str → List ClassD → Int
  | _, [] => 0
  | K, x :: r => if checkM d s b m n x ≠ 0 then checkM d s b m n x else if x.code ∈ K then 11 else goK d s b m n (K ++ [x.code]) r
theorem goK_step (d s b m n : Int) (l : List ClassD) (i : Nat) (hi : i < l.length) :
    goK d s b m n (codesK (l.take i)) (l.drop i) = if checkM d s b m n l[i] ≠ 0 then checkM d s b m n l[i] else if l[i].code ∈ codesK (l.take i) then 11 else goK d s b m n (codesK (l.take (i + 1))) (l.drop (i + 1)) := by
  rw [List.drop_eq_getElem_cons hi, goK]
  have e : codesK (l.take (i + 1)) = codesK (l.take i) ++ [l[i].code] := by rw [List.take_succ_eq_append_getElem hi]; unfold codesK; rw [List.map_append]; rfl
  rw [e]
/-- The first error of classes. -/
def validK (d s b m n : Int) (l : List ClassD) : Int := if frameB d s b m n = false then 1 else if 24 < l.length then 2 else goK d s b m n [] l
theorem checkM_code {d s b m n : Int} {x : ClassD} (h : checkM d s b m n x = 0) : S3.validC x.code = true := by
  unfold checkM at h
  by_cases hc : S3.validC x.code = false ∨ S3.validC x.course = false ∨ S3.validC x.part = false
  · rw [if_pos hc] at h; simp at h
  · simp only [not_or, Bool.not_eq_false] at hc
    exact hc.1
end Go.Proofs.YtigdcgklpapfbaaGreatDoor.S10

set_option linter.unusedVariables false
namespace Go.Proofs.YtigdcgklpapfbaaGreatDoor.S10
open Go Go.Proofs Go.RowKit Go.Lib Go.Proofs.YtigdcgklpapfbaaGreatDoor

theorem numF_rng (s : Str) : 0 ≤ (numF s).1 ∧ (numF s).1 < 10000 := by
  unfold numF
  split
  · rename_i h
    have h1 := S3.numN_lt s (List.all_eq_true.1 h.2.2)
    have h2 : 10 ^ s.length ≤ 10 ^ 4 := Nat.pow_le_pow_right (by omega) h.2.1
    have h3 : (10 : Nat) ^ 4 = 10000 := by decide
    refine ⟨by simp only; omega, ?_⟩
    simp only
    omega
  · simp
theorem decFrom_notF : ∀ (l : Str) (acc : Nat), l.all S3.dg = false → Lib.decFrom acc l = none
  | [], acc, h => by simp at h
  | c :: r, acc, h => by
    rw [Lib.decFrom]
    by_cases hc : S3.dg c = true
    · have h3 : 48 ≤ c.toNat ∧ c.toNat ≤ 57 := by simpa [S3.dg] using hc
      rw [show Lib.digitVal c = some (c.toNat - 48) by simp [Lib.digitVal, h3]]
      exact decFrom_notF r _ (by rw [List.all_cons, hc, Bool.true_and] at h; exact h)
    · have h3 : ¬ (48 ≤ c.toNat ∧ c.toNat ≤ 57) := by simpa [S3.dg] using hc
      rw [show Lib.digitVal c = none by simp [Lib.digitVal]; omega]
theorem atoi_numF (s : Str) (a : UInt8) (r : Str) (hs : s = a :: r) (hl : s.length ≤ 4) (h : 48 ≤ a.toNat) : Lib.atoi s = if (numF s).2 = false then none else some (numF s).1 := by
  subst hs
  by_cases hd : (a :: r).all S3.dg = true
  · have hN : numF (a :: r) = (((S3.numN (a :: r) : Nat) : Int), true) := if_pos ⟨by simp, hl, hd⟩
    rw [hN, if_neg (by simp)]
    exact S3.atoi_num _ (by simp) (List.all_eq_true.1 hd)
  · have hN : numF (a :: r) = (0, false) := if_neg (fun k => hd k.2.2)
    rw [hN, if_pos rfl]
    have e1 : (a == 45) = false := by
      rw [beq_eq_false_iff_ne]
      rintro rfl
      simp at h
    have e2 : (a == 43) = false := by
      rw [beq_eq_false_iff_ne]
      rintro rfl
      simp at h
    unfold Lib.atoi
    dsimp only
    rw [e1, e2, if_neg (by simp), if_neg (by simp)]
    unfold Lib.decNat
    rw [if_neg (by simp), decFrom_notF _ _ (by simpa using hd)]
    rfl
theorem numF_low {a : UInt8} {r : Str} (h : a.toNat < 48) : numF (a :: r) = (0, false) := by
  refine if_neg (fun k => ?_)
  have h1 : S3.dg a = true := (List.all_eq_true.1 k.2.2) a (by simp)
  have h3 : 48 ≤ a.toNat ∧ a.toNat ≤ 57 := by simpa [S3.dg] using h1
  omega
theorem numF_long {s : Str} (h : 4 < s.length) : numF s = (0, false) := if_neg (fun k => by omega)
theorem lst_nilF {s : ByteArray} (h : ¬ 0 < s.size) : lst s = [] := List.eq_nil_of_length_eq_zero (by rw [← Lib.size_eq]; omega)
set_option maxHeartbeats 2000000 in
/-- ReadPadded of numerals at four digits. -/
theorem padded4_any (s : ByteArray) (w : World) (hE : Env w) : Calls Tryz.prog 121 #[.string s, .int .i64 4] w fun e w' => e = .returned (.tuple #[.int .i64 (numF (lst s)).1, .bool (numF (lst s)).2]) ∧ Below w.heap.size w w' := by
  obtain ⟨⟨N, B⟩, hN⟩ : ∃ N, numF (lst s) = N := ⟨_, rfl⟩
  rw [hN]
  dsimp only
  by_cases h0 : 0 < s.size
  · obtain ⟨x1, x2, x3, x4⟩ := S3.str_no h0
    obtain ⟨r, hr⟩ := lst_cons h0
    by_cases h2 : s.size ≤ 4
    · have h2' : (s.size : Int) ≤ 4 := by omega
      have h2'' : ¬ (4 : Int) < s.size := by omega
      obtain ⟨a, ha⟩ : ∃ a, s[0]'h0 = a := ⟨_, rfl⟩
      rw [ha] at hr
      by_cases h3 : a.toNat < 48
      · have h3' : (a.toNat : Int) < 48 := by omega
        have : ((0 : Int), false) = (N, B) := by rw [← hN, hr, numF_low h3]
        obtain ⟨rfl, rfl⟩ := Prod.mk.inj this
        clear hN hr hE this
        go_enter Tryz.func121, Tryz.ntmps121
        go_wp2
        go_ret2
        exact ⟨rfl, Below.refl _ _⟩
      · have h3' : ¬ (a.toNat : Int) < 48 := by omega
        have hat := atoi_numF (lst s) a r hr (by rw [← Lib.size_eq]; exact h2) (by omega)
        have h00 : B = false → N = 0 := by
          intro hb
          subst hb
          unfold numF at hN
          split at hN
          · simp at hN
          · exact (Prod.mk.inj hN).1.symm
        have hrng := numF_rng (lst s)
        rw [hN] at hat hrng
        obtain ⟨ev, hev, hev2⟩ := hE.ev
        cases B with
        | false =>
          obtain rfl := h00 rfl
          rw [if_pos rfl] at hat
          have cA := hid (Tryz.strconv_Atoi_err s (by omega) hat ev w hev hev2)
          clear hN hr hE hat hev hev2 h00 hrng
          go_enter Tryz.func121, Tryz.ntmps121
          go_wp2_with fail
          refine cA.out.mono ?_
          rintro e w' ⟨M, rfl, _, _, hb⟩
          have HB := hid hb
          clear hb
          go_wp2
          go_ret2
          exact ⟨rfl, HB.out⟩
        | true =>
          rw [if_neg (by simp)] at hat
          have cA := hid (Tryz.strconv_Atoi s N (by omega) hat w)
          clear hN hr hE hat hev hev2 h00 hrng
          go_enter Tryz.func121, Tryz.ntmps121
          go_wp2_with fail
          refine cA.out.mono ?_
          rintro e w' ⟨rfl, t, hw⟩
          have HB : Hid (Below w.heap.size w w') := hid (by rw [hw]; exact Lib.bytesWorld_below _ _ _)
          clear hw
          go_wp2
          go_ret2
          exact ⟨rfl, HB.out⟩
    · have h2' : ¬ (s.size : Int) ≤ 4 := by omega
      have h2'' : (4 : Int) < s.size := by omega
      have : ((0 : Int), false) = (N, B) := by rw [← hN, numF_long (by rw [← Lib.size_eq]; omega)]
      obtain ⟨rfl, rfl⟩ := Prod.mk.inj this
      clear hN hr hE this
      go_enter Tryz.func121, Tryz.ntmps121
      go_wp2
      go_ret2
      exact ⟨rfl, Below.refl _ _⟩
  · obtain ⟨x1, x2, x3, x4⟩ := S3.str_yes h0
    have : ((0 : Int), false) = (N, B) := by rw [← hN, lst_nilF h0]; rfl
    obtain ⟨rfl, rfl⟩ := Prod.mk.inj this
    clear hN hE this
    go_enter Tryz.func121, Tryz.ntmps121
    go_wp2
    go_ret2
    exact ⟨rfl, Below.refl _ _⟩

set_option maxHeartbeats 2000000 in
theorem readSeats_any (s : ByteArray) (w : World) (hE : Env w) : Calls Tryz.prog 87 #[.string s] w fun e w' => e = .returned (.tuple #[.int .i64 (seatsF (lst s)).1, .int .i64 (seatsF (lst s)).2]) ∧ Below w.heap.size w w' := by
  have cR := padded4_any s w hE
  unfold seatsF
  obtain ⟨⟨N, B⟩, hN⟩ : ∃ N, numF (lst s) = N := ⟨_, rfl⟩
  rw [hN] at cR ⊢
  dsimp only at cR ⊢
  have CR := hid cR
  clear cR hE hN
  cases B with
  | false =>
    rw [if_pos rfl]
    go_enter Tryz.func87, Tryz.ntmps87
    go_wp2_with fail
    refine CR.out.mono ?_
    rintro e w' ⟨rfl, hb⟩
    have HB := hid hb
    clear hb
    go_wp2
    go_ret2
    exact ⟨rfl, HB.out⟩
  | true =>
    rw [if_neg (by simp)]
    go_enter Tryz.func87, Tryz.ntmps87
    go_wp2_with fail
    refine CR.out.mono ?_
    rintro e w' ⟨rfl, hb⟩
    have HB := hid hb
    clear hb
    go_wp2
    go_ret2
    exact ⟨rfl, HB.out⟩
end Go.Proofs.YtigdcgklpapfbaaGreatDoor.S10
