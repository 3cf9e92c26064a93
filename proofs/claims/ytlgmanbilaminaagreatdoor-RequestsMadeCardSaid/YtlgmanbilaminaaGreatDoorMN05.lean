/-
  Records, problems in memory. No program beyond the types' facts. Classes as data, and in memory: slices of structs that came in, or that the call made. No .. Conditions: as stated.
-/
import Derived.Test.YtlgmanbilaminaaGreatDoorMN04
import Derived.Deep.RegionHeld3
set_option linter.unusedVariables false
namespace Go.Proofs.YtlgmanbilaminaaGreatDoor
open Go Go.Proofs Go.RowKit Go.Lib
abbrev FieldD := Str × Int × Bool
abbrev RecD := Int × List FieldD
abbrev ProbD := Int × Int × Int
def fieldVs (f : FieldD) : List Value := [.string (ba f.1), .int .i64 f.2.1, .bool f.2.2]
def FieldsIn (w : World) (P : Nat → Prop) (A : Option Addr) (l : List FieldD) : Prop :=
  l = [] ∨ ∃ b off, A = some ⟨b, off, none⟩ ∧ P b ∧ ∀ (j : Nat) (t : FieldD), l[j]? = some t → ∀ (i : Nat) (v : Value), (fieldVs t)[i]? = some v → w.cell? ⟨b, off + j * 3 + i, none⟩ = some v
theorem FieldsIn.kept {w w' : World} {P : Nat → Prop} {A : Option Addr} {l : List FieldD} (h : FieldsIn w P A l) (hk : ∀ b, P b → w'.heap[b]? = w.heap[b]?) : FieldsIn w' P A l := by
  rcases h with h | ⟨b, off, hA, hP, hc⟩
  · exact .inl h
  · exact .inr ⟨b, off, hA, hP, fun j t hj i v hv => (World.cell?_of_block (w := w) (hk b hP)).trans (hc j t hj i v hv)⟩
theorem FieldsIn.mono {w : World} {P P' : Nat → Prop} {A : Option Addr} {l : List FieldD} (h : FieldsIn w P A l) (hP : ∀ b, P b → P' b) : FieldsIn w P' A l := by
  rcases h with h | ⟨b, off, hA, hb, hc⟩
  · exact .inl h
  · exact .inr ⟨b, off, hA, hP b hb, hc⟩
theorem FieldsIn.below {w w' : World} {B : Nat} {A : Option Addr} {l : List FieldD} (h : FieldsIn w (fun b => b < B) A l) (hb : Below B w w') : FieldsIn w' (fun b => b < B) A l := h.kept fun b hB => hb.block b hB
theorem FieldsIn.at_ {w : World} {P : Nat → Prop} {A : Option Addr} {l : List FieldD} (h : FieldsIn w P A l) {k : Nat} (hk : k < l.length) :
    ∃ b off, A = some ⟨b, off, none⟩ ∧ P b ∧ w.cell? ⟨b, off + k * 3, none⟩ = some (.string (ba l[k].1)) ∧ w.cell? ⟨b, off + k * 3 + 1, none⟩ = some (.int .i64 l[k].2.1) ∧ w.cell? ⟨b, off + k * 3 + 2, none⟩ = some (.bool l[k].2.2) := by
  rcases h with h | ⟨b, off, hA, hP, hc⟩
  · subst h; simp at hk
  · have hg := List.getElem?_eq_getElem hk
    exact ⟨b, off, hA, hP, hc k _ hg 0 _ rfl, hc k _ hg 1 _ rfl, hc k _ hg 2 _ rfl⟩
def RecsIn (w : World) (P : Nat → Prop) (A : Option Addr) (l : List RecD) : Prop :=
  l = [] ∨ ∃ b off, A = some ⟨b, off, none⟩ ∧ P b ∧ ∀ (j : Nat) (r : RecD), l[j]? = some r → ∃ A' c', FieldsIn w P A' r.2 ∧ r.2.length ≤ c' ∧ c' ≤ 9223372036854775807 ∧ w.cell? ⟨b, off + j * 2, none⟩ = some (.int .i64 r.1) ∧ w.cell? ⟨b, off + j * 2 + 1, none⟩ = some (.slice A' r.2.length c')
theorem RecsIn.kept {w w' : World} {P : Nat → Prop} {A : Option Addr} {l : List RecD} (h : RecsIn w P A l) (hk : ∀ b, P b → w'.heap[b]? = w.heap[b]?) : RecsIn w' P A l := by
  rcases h with h | ⟨b, off, hA, hP, hc⟩
  · exact .inl h
  · refine .inr ⟨b, off, hA, hP, fun j r hj => ?_⟩
    obtain ⟨A', c', h1, h2, h3, h4, h5⟩ := hc j r hj
    exact ⟨A', c', h1.kept hk, h2, h3, (World.cell?_of_block (w := w) (hk b hP)).trans h4, (World.cell?_of_block (w := w) (hk b hP)).trans h5⟩
theorem RecsIn.mono {w : World} {P P' : Nat → Prop} {A : Option Addr} {l : List RecD} (h : RecsIn w P A l) (hP : ∀ b, P b → P' b) : RecsIn w P' A l := by
  rcases h with h | ⟨b, off, hA, hb, hc⟩
  · exact .inl h
  · refine .inr ⟨b, off, hA, hP b hb, fun j r hj => ?_⟩
    obtain ⟨A', c', h1, h2, h3, h4, h5⟩ := hc j r hj
    exact ⟨A', c', h1.mono hP, h2, h3, h4, h5⟩
theorem RecsIn.below {w w' : World} {B : Nat} {A : Option Addr} {l : List RecD} (h : RecsIn w (fun b => b < B) A l) (hb : Below B w w') : RecsIn w' (fun b => b < B) A l := h.kept fun b hB => hb.block b hB
theorem RecsIn.at_ {w : World} {P : Nat → Prop} {A : Option Addr} {l : List RecD} (h : RecsIn w P A l) {k : Nat} (hk : k < l.length) :
    ∃ b off A' c', A = some ⟨b, off, none⟩ ∧ P b ∧ FieldsIn w P A' l[k].2 ∧ l[k].2.length ≤ c' ∧ c' ≤ 9223372036854775807 ∧ w.cell? ⟨b, off + k * 2, none⟩ = some (.int .i64 l[k].1) ∧ w.cell? ⟨b, off + k * 2 + 1, none⟩ = some (.slice A' l[k].2.length c') := by
  rcases h with h | ⟨b, off, hA, hP, hc⟩
  · subst h; simp at hk
  · obtain ⟨A', c', h1, h2, h3, h4, h5⟩ := hc k _ (List.getElem?_eq_getElem hk)
    exact ⟨b, off, A', c', hA, hP, h1, h2, h3, h4, h5⟩
theorem infoProb : (Tryz.prog.info? 80).map (fun i => (i.zero, i.size, i.bytes)) = some (some (.agg #[.int .i64 0, .int .i64 0, .int .i64 0, .int .i64 0]), 4, 32) := by kernel_rfl
def timeVals (l : List TimeD) : List Value := l.flatMap timeVs
theorem timeVals_one : ∀ (l : List TimeD), ∀ u ∈ timeVals l, u.oneCell' = true := by
  intro l u hu
  obtain ⟨t, _, h⟩ := List.mem_flatMap.1 hu
  simp [timeVs] at h
  rcases h with rfl | rfl | rfl | rfl <;> rfl
def probVs (p : ProbD) : List Value := [.int .i64 0, .int .i64 p.1, .int .i64 p.2.1, .int .i64 p.2.2]
def probVals (l : List ProbD) : List Value := l.flatMap probVs
theorem probVals_app (a b : List ProbD) : probVals (a ++ b) = probVals a ++ probVals b := by simp [probVals]
def ProbsRow (w : World) (B : Nat) (v : Value) (l : List ProbD) : Prop := w.ownsRow B 80 4 v l.length (probVals l)
end Go.Proofs.YtlgmanbilaminaaGreatDoor
namespace Go.Proofs.YtlgmanbilaminaaGreatDoor.S10
open Go Go.Proofs Go.RowKit Go.Lib Go.Proofs.YtlgmanbilaminaaGreatDoor
abbrev StartD := Int × Int
def startVs (t : StartD) : List Value := [.int .i64 t.1, .int .i64 t.2]
def startVals (l : List StartD) : List Value := l.flatMap startVs
theorem startVals_app (a b : List StartD) : startVals (a ++ b) = startVals a ++ startVals b := by simp [startVals]
theorem startVals_len : ∀ l : List StartD, (startVals l).length = l.length * 2
  | [] => rfl
  | t :: r => by
    have := startVals_len r
    unfold startVals at this ⊢
    rw [List.flatMap_cons, List.length_append, this, List.length_cons]
    show 2 + _ = _
    omega
theorem startVals_one : ∀ (l : List StartD), ∀ u ∈ startVals l, u.oneCell' = true := by
  intro l u hu
  obtain ⟨t, _, h⟩ := List.mem_flatMap.1 hu
  simp [startVs] at h
  rcases h with rfl | rfl <;> rfl
theorem infoStart : (Tryz.prog.info? 127).map (fun i => (i.zero, i.size, i.bytes)) = some (some (.agg #[.int .i64 0, .int .i64 0]), 2, 16) := by kernel_rfl
def FlatIn (w : World) (P : Nat → Prop) (A : Option Addr) (vs : List Value) : Prop := vs = [] ∨ ∃ b off, A = some ⟨b, off, none⟩ ∧ P b ∧ ∀ (i : Nat) (v : Value), vs[i]? = some v → w.cell? ⟨b, off + i, none⟩ = some v
theorem FlatIn.kept {w w' : World} {P : Nat → Prop} {A : Option Addr} {l : List Value} (h : FlatIn w P A l) (hk : ∀ b, P b → w'.heap[b]? = w.heap[b]?) : FlatIn w' P A l := by
  rcases h with h | ⟨b, off, hA, hP, hc⟩
  · exact .inl h
  · exact .inr ⟨b, off, hA, hP, fun i v hv => (World.cell?_of_block (w := w) (hk b hP)).trans (hc i v hv)⟩
theorem FlatIn.mono {w : World} {P P' : Nat → Prop} {A : Option Addr} {l : List Value} (h : FlatIn w P A l) (hP : ∀ b, P b → P' b) : FlatIn w P' A l := by
  rcases h with h | ⟨b, off, hA, hb, hc⟩
  · exact .inl h
  · exact .inr ⟨b, off, hA, hP b hb, hc⟩
theorem FlatIn.ofRow {w : World} {B e z n : Nat} {v : Value} {vs : List Value} (h : w.ownsRow B e z v n vs) (hz : vs.length = n * z) : ∃ A c, v = .slice A n c ∧ n ≤ c ∧ c ≤ 9223372036854775807 ∧ FlatIn w (fun b => B ≤ b ∧ b < w.heap.size) A vs := by
  have h' := h
  rcases h.2 with ⟨hv, h0⟩ | ⟨g, cap, cur, hv, hB, hg, h1, h2, _⟩
  · subst h0
    exact ⟨none, 0, hv, Nat.le_refl _, by omega, .inl (List.eq_nil_of_length_eq_zero (by simpa using hz))⟩
  · refine ⟨_, cap, hv, h1, by unfold maxLen at h2; omega, .inr ⟨g, 0, rfl, ⟨hB, (Array.getElem?_eq_some_iff.1 hg).1⟩, fun j v' hv' => ?_⟩⟩
    have := World.ownsRow.cells h' (g := g) (by rw [hv]; rfl) j v' hv'
    rwa [Addr.add_lit] at this
abbrev NumsIn (w : World) (P : Nat → Prop) (A : Option Addr) (l : List Int) : Prop := FlatIn w P A (intVals l)
abbrev StartsIn (w : World) (P : Nat → Prop) (A : Option Addr) (l : List StartD) : Prop := FlatIn w P A (startVals l)
structure ClassD where
  code : Str
  course : Str
  part : Str
  len : Int
  pats : List Int
  seats : Int
  feats : List Str
  staff : List Str
  starts : List StartD
structure ClassA where
  aP : Option Addr
  cP : Nat
  aF : Option Addr
  cF : Nat
  aS : Option Addr
  cS : Nat
  aT : Option Addr
  cT : Nat
def clsVs (x : ClassD) (q : ClassA) : List Value := [.string (ba x.code), .string (ba x.course), .string (ba x.part), .int .i64 x.len, .slice q.aP x.pats.length q.cP, .int .i64 x.seats, .slice q.aF x.feats.length q.cF, .slice q.aS x.staff.length q.cS, .slice q.aT x.starts.length q.cT]
structure ClassIn (w : World) (P : Nat → Prop) (x : ClassD) (q : ClassA) : Prop where
  p : NumsIn w P q.aP x.pats
  f : S3.StrsIn w P q.aF x.feats
  s : S3.StrsIn w P q.aS x.staff
  t : StartsIn w P q.aT x.starts
  p1 : x.pats.length ≤ q.cP
  p2 : q.cP ≤ 9223372036854775807
  f1 : x.feats.length ≤ q.cF
  f2 : q.cF ≤ 9223372036854775807
  s1 : x.staff.length ≤ q.cS
  s2 : q.cS ≤ 9223372036854775807
  t1 : x.starts.length ≤ q.cT
  t2 : q.cT ≤ 9223372036854775807
theorem ClassIn.kept {w w' : World} {P : Nat → Prop} {x : ClassD} {q : ClassA} (h : ClassIn w P x q) (hk : ∀ b, P b → w'.heap[b]? = w.heap[b]?) : ClassIn w' P x q :=
  { h with p := h.p.kept hk, f := h.f.kept hk, s := h.s.kept hk, t := h.t.kept hk }
theorem ClassIn.mono {w : World} {P P' : Nat → Prop} {x : ClassD} {q : ClassA} (h : ClassIn w P x q) (hP : ∀ b, P b → P' b) : ClassIn w P' x q :=
  { h with p := h.p.mono hP, f := h.f.mono hP, s := h.s.mono hP, t := h.t.mono hP }
structure Cells9 (w : World) (b o : Nat) (v0 v1 v2 v3 v4 v5 v6 v7 v8 : Value) : Prop where
  c0 : w.cell? ⟨b, o, none⟩ = some v0
  c1 : w.cell? ⟨b, o + 1, none⟩ = some v1
  c2 : w.cell? ⟨b, o + 2, none⟩ = some v2
  c3 : w.cell? ⟨b, o + 3, none⟩ = some v3
  c4 : w.cell? ⟨b, o + 4, none⟩ = some v4
  c5 : w.cell? ⟨b, o + 5, none⟩ = some v5
  c6 : w.cell? ⟨b, o + 6, none⟩ = some v6
  c7 : w.cell? ⟨b, o + 7, none⟩ = some v7
  c8 : w.cell? ⟨b, o + 8, none⟩ = some v8
abbrev ClassAt (w : World) (b o : Nat) (x : ClassD) (q : ClassA) : Prop := Cells9 w b o (.string (ba x.code)) (.string (ba x.course)) (.string (ba x.part)) (.int .i64 x.len) (.slice q.aP x.pats.length q.cP) (.int .i64 x.seats) (.slice q.aF x.feats.length q.cF) (.slice q.aS x.staff.length q.cS) (.slice q.aT x.starts.length q.cT)
theorem classAt_of {w : World} {b o : Nat} {x : ClassD} {q : ClassA} (h : ∀ (i : Nat) (v : Value), (clsVs x q)[i]? = some v → w.cell? ⟨b, o + i, none⟩ = some v) : ClassAt w b o x q :=
  ⟨h 0 _ rfl, h 1 _ rfl, h 2 _ rfl, h 3 _ rfl, h 4 _ rfl, h 5 _ rfl, h 6 _ rfl, h 7 _ rfl, h 8 _ rfl⟩
def ClassesIn (w : World) (P : Nat → Prop) (A : Option Addr) (l : List ClassD) : Prop :=
  l = [] ∨ ∃ b off, A = some ⟨b, off, none⟩ ∧ P b ∧ ∀ (j : Nat) (x : ClassD), l[j]? = some x → ∃ q, ClassIn w P x q ∧ ∀ (i : Nat) (v : Value), (clsVs x q)[i]? = some v → w.cell? ⟨b, off + j * 9 + i, none⟩ = some v
theorem ClassesIn.kept {w w' : World} {P : Nat → Prop} {A : Option Addr} {l : List ClassD} (h : ClassesIn w P A l) (hk : ∀ b, P b → w'.heap[b]? = w.heap[b]?) : ClassesIn w' P A l := by
  rcases h with h | ⟨b, off, hA, hP, hc⟩
  · exact .inl h
  · refine .inr ⟨b, off, hA, hP, fun j r hj => ?_⟩
    obtain ⟨q, h1, h2⟩ := hc j r hj
    exact ⟨q, h1.kept hk, fun i v hv => (World.cell?_of_block (w := w) (hk b hP)).trans (h2 i v hv)⟩
theorem ClassesIn.mono {w : World} {P P' : Nat → Prop} {A : Option Addr} {l : List ClassD} (h : ClassesIn w P A l) (hP : ∀ b, P b → P' b) : ClassesIn w P' A l := by
  rcases h with h | ⟨b, off, hA, hb, hc⟩
  · exact .inl h
  · refine .inr ⟨b, off, hA, hP b hb, fun j r hj => ?_⟩
    obtain ⟨q, h1, h2⟩ := hc j r hj
    exact ⟨q, h1.mono hP, h2⟩
theorem ClassesIn.below {w w' : World} {B : Nat} {A : Option Addr} {l : List ClassD} (h : ClassesIn w (fun b => b < B) A l) (hb : Below B w w') : ClassesIn w' (fun b => b < B) A l := h.kept fun b hB => hb.block b hB
theorem ClassesIn.at_ {w : World} {P : Nat → Prop} {A : Option Addr} {l : List ClassD} (h : ClassesIn w P A l) {k : Nat} (hk : k < l.length) :
    ∃ b off q, A = some ⟨b, off, none⟩ ∧ P b ∧ ClassIn w P l[k] q ∧ ClassAt w b (off + k * 9) l[k] q := by
  rcases h with h | ⟨b, off, hA, hP, hc⟩
  · subst h; simp at hk
  · obtain ⟨q, h1, h2⟩ := hc k _ (List.getElem?_eq_getElem hk)
    exact ⟨b, off, q, hA, hP, h1, classAt_of h2⟩
structure BoxC (w : World) (B : Nat) (a : Array Value) : Prop where
  h : w.heap[B]? = some (.cells a 95 (0, 0))
theorem BoxC.new (w : World) (a : Array Value) : BoxC (w.alloc (.cells a 95)) w.heap.size a := ⟨heap_alloc_new w _⟩
theorem BoxC.lt {w : World} {B : Nat} {a : Array Value} (h : BoxC w B a) : B < w.heap.size := (Array.getElem?_eq_some_iff.1 h.h).1
theorem BoxC.kept {w w' : World} {B : Nat} {a : Array Value} (h : BoxC w B a) (hk : w'.heap[B]? = w.heap[B]?) : BoxC w' B a := ⟨hk.trans h.h⟩
theorem BoxC.below {w w' : World} {B C : Nat} {a : Array Value} (h : BoxC w B a) (hb : Below C w w') (hC : B < C) : BoxC w' B a := h.kept (hb.block B hC)
theorem BoxC.next {w w' : World} {B : Nat} {a : Array Value} (h : BoxC w B a) (hb : Below w.heap.size w w') : BoxC w' B a := h.below hb h.lt
theorem BoxC.cells {w : World} {B : Nat} {v0 v1 v2 v3 v4 v5 v6 v7 v8 : Value} (h : BoxC w B #[v0, v1, v2, v3, v4, v5, v6, v7, v8]) :
    w.cell? ⟨B, 0, none⟩ = some v0 ∧ w.cell? ⟨B, 1, none⟩ = some v1 ∧ w.cell? ⟨B, 2, none⟩ = some v2 ∧ w.cell? ⟨B, 3, none⟩ = some v3 ∧ w.cell? ⟨B, 4, none⟩ = some v4 ∧ w.cell? ⟨B, 5, none⟩ = some v5 ∧ w.cell? ⟨B, 6, none⟩ = some v6 ∧ w.cell? ⟨B, 7, none⟩ = some v7 ∧ w.cell? ⟨B, 8, none⟩ = some v8 := by
  refine ⟨?_, ?_, ?_, ?_, ?_, ?_, ?_, ?_, ?_⟩ <;> (rw [Lib.cell_of_heap h.h]; rfl)
theorem BoxC.free {w : World} {B : Nat} {a : Array Value} (h : BoxC w B a) (j : Nat) : w.frozen? ⟨B, j, none⟩ = false := by simp [World.frozen?, h.h]
theorem BoxC.put {w : World} {B : Nat} {a : Array Value} (h : BoxC w B a) (j : Nat) (u : Value) : BoxC (w.setCell ⟨B, j, none⟩ u) B (a.setIfInBounds j u) := ⟨heap_setCell_same w B j _ _ u h.h⟩
structure Box1 (w : World) (B : Nat) (T : TypeId) (v : Value) : Prop where
  h : w.heap[B]? = some (.cells #[v] T (0, 0))
theorem Box1.new (w : World) (T : TypeId) (v : Value) : Box1 (w.alloc (.cells #[v] T)) w.heap.size T v := ⟨heap_alloc_new w _⟩
theorem Box1.lt {w : World} {B : Nat} {T : TypeId} {v : Value} (h : Box1 w B T v) : B < w.heap.size := (Array.getElem?_eq_some_iff.1 h.h).1
theorem Box1.kept {w w' : World} {B : Nat} {T : TypeId} {v : Value} (h : Box1 w B T v) (hk : w'.heap[B]? = w.heap[B]?) : Box1 w' B T v := ⟨hk.trans h.h⟩
theorem Box1.below {w w' : World} {B C : Nat} {T : TypeId} {v : Value} (h : Box1 w B T v) (hb : Below C w w') (hC : B < C) : Box1 w' B T v := h.kept (hb.block B hC)
theorem Box1.next {w w' : World} {B : Nat} {T : TypeId} {v : Value} (h : Box1 w B T v) (hb : Below w.heap.size w w') : Box1 w' B T v := h.below hb h.lt
theorem Box1.cell {w : World} {B : Nat} {T : TypeId} {v : Value} (h : Box1 w B T v) : w.cell? ⟨B, 0, none⟩ = some v := by
  rw [Lib.cell_of_heap h.h]; rfl
theorem infoClass : (Tryz.prog.info? 95).map (fun i => (i.zero, i.size, i.bytes)) = some (some (.agg #[.string ⟨#[]⟩, .string ⟨#[]⟩, .string ⟨#[]⟩, .int .i64 0, .slice none 0 0, .int .i64 0, .slice none 0 0, .slice none 0 0, .slice none 0 0]), 9, 160) := by kernel_rfl
def clsVals (l : List (ClassD × ClassA)) : List Value := l.flatMap fun p => clsVs p.1 p.2
theorem clsVals_app (a b : List (ClassD × ClassA)) : clsVals (a ++ b) = clsVals a ++ clsVals b := by simp [clsVals]
theorem clsVals_get : ∀ (l : List (ClassD × ClassA)) (j : Nat) (t : ClassD × ClassA), l[j]? = some t → ∀ (i : Nat) (v : Value), (clsVs t.1 t.2)[i]? = some v → (clsVals l)[j * 9 + i]? = some v
  | [], j, t, h, _, _, _ => by simp at h
  | a :: r, 0, t, h, i, v, hv => by
    simp at h
    subst h
    have hi : i < 9 := (List.getElem?_eq_some_iff.1 hv).1
    unfold clsVals
    rw [List.flatMap_cons, List.getElem?_append_left (by show _ < 9; omega)]
    simpa using hv
  | a :: r, j + 1, t, h, i, v, hv => by
    have := clsVals_get r j t (by simpa using h) i v hv
    unfold clsVals at this ⊢
    rw [List.flatMap_cons, List.getElem?_append_right (by show 9 ≤ _; omega)]
    show (List.flatMap _ r)[(j + 1) * 9 + i - 9]? = _
    rw [show (j + 1) * 9 + i - 9 = j * 9 + i by omega]
    exact this
theorem cls_one (x : ClassD) (q : ClassA) : ∀ u ∈ clsVs x q, u.oneCell' = true := by
  intro u h
  simp [clsVs] at h
  rcases h with rfl | rfl | rfl | rfl | rfl | rfl | rfl | rfl | rfl <;> rfl
def ClassRow (w : World) (B : Nat) (P : Nat → Prop) (v : Value) (l : List ClassD) : Prop := ∃ L : List (ClassD × ClassA), L.map (·.1) = l ∧ w.ownsRow B 95 9 v l.length (clsVals L) ∧ ∀ p ∈ L, ClassIn w P p.1 p.2
theorem ClassRow.classesIn {w : World} {B : Nat} {P : Nat → Prop} {v : Value} {l : List ClassD} (h : ClassRow w B P v l) : ∃ A c, v = .slice A l.length c ∧ l.length ≤ c ∧ c ≤ 9223372036854775807 ∧ ClassesIn w (fun b => P b ∨ (B ≤ b ∧ b < w.heap.size)) A l := by
  obtain ⟨L, rfl, h, hL⟩ := h
  have h' := h
  rcases h.2 with ⟨hv, h0⟩ | ⟨g, cap, cur, hv, hB, hg, h1, h2, _⟩
  · have hl : L.map (·.1) = [] := List.eq_nil_of_length_eq_zero h0
    rw [hl]
    exact ⟨none, 0, by rw [hv]; rfl, Nat.le_refl _, by omega, .inl rfl⟩
  · refine ⟨_, cap, hv, h1, by unfold maxLen at h2; omega, .inr ⟨g, 0, rfl, .inr ⟨hB, (Array.getElem?_eq_some_iff.1 hg).1⟩, fun j r hj => ?_⟩⟩
    rw [List.getElem?_map] at hj
    obtain ⟨p, hp, rfl⟩ := Option.map_eq_some_iff.1 hj
    refine ⟨p.2, (hL p (List.mem_of_getElem? hp)).mono (fun b hb => .inl hb), fun i v' hv' => ?_⟩
    have := World.ownsRow.cells h' (g := g) (by rw [hv]; rfl) (j * 9 + i) v' (clsVals_get L j p hp i v' hv')
    rw [Addr.add_lit] at this
    rw [← Nat.add_assoc] at this
    exact this
theorem rowLow {w : World} {e z n B B' : Nat} {v : Value} {xs : List Value} (h : w.ownsRow B e z v n xs) (hB : B' ≤ B) : w.ownsRow B' e z v n xs := by
  obtain ⟨h1, h2⟩ := h
  refine ⟨h1, ?_⟩
  rcases h2 with h2 | ⟨g, cap, cur, hv, hg, r⟩
  · exact .inl h2
  · exact .inr ⟨g, cap, cur, hv, Nat.le_trans hB hg, r⟩
end Go.Proofs.YtlgmanbilaminaaGreatDoor.S10
namespace Go.Proofs.YtlgmanbilaminaaGreatDoor
open Go Go.Proofs Go.RowKit Go.Lib
def SetP (n : Nat) (g c : Nat) (A : Option Addr) (L : List Int) (w0 : World) (e : Ending) (w' : World) : Prop :=
  (∃ S : Int, e = .returned (.int .i64 S) ∧ 1 ≤ S ∧ S < 2 ^ n) ∧ (∃ k', DiceAt w' g A L c k') ∧ Rolled g w0 w'
theorem set_ofInt (a : Nat) (ha : a < 9223372036854775808) : (BitVec.ofInt 64 (a : Int)).toNat = a := by
  rw [BitVec.ofInt_natCast, BitVec.toNat_ofNat]; exact Nat.mod_eq_of_lt (by omega)
theorem set_and (a b : Nat) (ha : a < 9223372036854775808) (hb : b < 9223372036854775808) : bits .and .i64 (a : Int) (b : Int) = ((a &&& b : Nat) : Int) := by
  have hx : a &&& b < 2 ^ 63 := Nat.and_lt_two_pow _ (by omega)
  show IntKind.i64.wrap ((BitVec.ofInt 64 (a : Int) &&& BitVec.ofInt 64 (b : Int)).toNat : Int) = _
  rw [BitVec.toNat_and, set_ofInt a ha, set_ofInt b hb, IntKind.wrap_i64]
  omega
theorem set_odd : ∀ n : Fin 21, 1 ≤ n.val → 1 ≤ 349525 &&& (2 ^ n.val - 1) ∧ 349525 &&& (2 ^ n.val - 1) < 2 ^ n.val := by decide
theorem set_odd' (n : Nat) (h1 : 1 ≤ n) (h2 : n ≤ 20) : ∃ v : Int, bits .and .i64 349525 ((2 : Int) ^ n - 1) = v ∧ 1 ≤ v ∧ v < 2 ^ n := by
  obtain ⟨a, b⟩ := set_odd ⟨n, by omega⟩ h1
  simp only at a b
  have hp : 2 ^ n ≤ 2 ^ 20 := Nat.pow_le_pow_right (by omega) h2
  have hp1 : 0 < 2 ^ n := Nat.two_pow_pos n
  have e : (2 : Int) ^ n - 1 = ((2 ^ n - 1 : Nat) : Int) := by
    rw [Int.natCast_sub (by omega), Int.natCast_pow]
    rfl
  refine ⟨_, rfl, ?_, ?_⟩
  · rw [e, show (349525 : Int) = ((349525 : Nat) : Int) by rfl, set_and _ _ (by omega) (by omega)]
    omega
  · rw [e, show (349525 : Int) = ((349525 : Nat) : Int) by rfl, set_and _ _ (by omega) (by omega)]
    rw [show (2 : Int) ^ n = ((2 ^ n : Nat) : Int) by rw [Int.natCast_pow]; rfl]
    omega
set_option maxHeartbeats 4000000 in
set_option maxRecDepth 100000 in
theorem set_any (n : Nat) (h1 : 1 ≤ n) (h2 : n ≤ 20) (g c k : Nat) (A : Option Addr) (L : List Int) (w : World) (h : DiceAt w g A L c k) :
    Calls Tryz.prog 85 #[.pointer (some ⟨g, 0, none⟩), .int .i64 (n : Int)] w (SetP n g c A L w) := by
  have HN := hid (fun (W : World) k n hn (h : DiceAt W g A L c k) => next_at g c k A L n hn W h)
  have HD := hid h
  have hp : (2 : Int) ^ n ≤ 1048576 := by
    have : 2 ^ n ≤ 2 ^ 20 := Nat.pow_le_pow_right (by omega) h2
    have e : (2 : Int) ^ n = ((2 ^ n : Nat) : Int) := by rw [Int.natCast_pow]; rfl
    omega
  have hp2 : (2 : Int) ≤ 2 ^ n := by
    have : 2 ^ 1 ≤ 2 ^ n := Nat.pow_le_pow_right (by omega) h1
    have e : (2 : Int) ^ n = ((2 ^ n : Nat) : Int) := by rw [Int.natCast_pow]; rfl
    omega
  obtain ⟨V, hV, hV1, hV2⟩ := set_odd' n h1 h2
  clear h
  go_enter Tryz.func85, Tryz.ntmps85
  go_wp2_with fail
  refine (HN.out _ _ _ (by omega) HD.out).mono ?_
  rintro e w2 ⟨rfl, hd2, hR2⟩
  obtain ⟨r, hr⟩ : ∃ r, rollV L k 4 = r := ⟨_, rfl⟩
  rw [hr]
  have HD2 := hid hd2
  have HR2 := hid hR2
  clear hr hd2 hR2
  by_cases e0 : r = 0
  · subst e0
    go_wp2_with fail
    go_ret
    exact ⟨⟨2 ^ n - 1, rfl, by omega, by omega⟩, ⟨_, HD2.out⟩, HR2.out⟩
  · have e0' : (r == 0) = false := by simpa using e0
    by_cases e1 : r = 1
    · subst e1
      go_wp2_with fail
      go_ret
      exact ⟨⟨V, rfl, hV1, hV2⟩, ⟨_, HD2.out⟩, HR2.out⟩
    · have e1' : (r == 1) = false := by simpa using e1
      clear e0 e1
      go_wp2_with fail
      refine (HN.out _ _ _ (by omega) HD2.out).mono ?_
      rintro e w3 ⟨rfl, hd3, hR3⟩
      obtain ⟨q, hq⟩ : ∃ q, rollV L (rollK L k) (2 ^ n - 1) = q := ⟨_, rfl⟩
      have hqq := rollV_range L (rollK L k) (2 ^ n - 1) (by omega)
      rw [hq] at hqq ⊢
      have HD3 := hid hd3
      have HR3 := hid (HR2.out.trans hR3)
      clear hq hd3 hR3
      go_wp2_with fail
      go_ret
      exact ⟨⟨1 + q, rfl, by omega, by omega⟩, ⟨_, HD3.out⟩, HR3.out⟩
def Says (v : Value) (w : World) (e : Ending) (w' : World) : Prop := e = .returned v ∧ Below w.heap.size w w'
structure Box4 (w : World) (B : Nat) (a b c d : Int) : Prop where
  c0 : w.cell? ⟨B, 0, none⟩ = some (.int .i64 a)
  c1 : w.cell? ⟨B, 1, none⟩ = some (.int .i64 b)
  c2 : w.cell? ⟨B, 2, none⟩ = some (.int .i64 c)
  c3 : w.cell? ⟨B, 3, none⟩ = some (.int .i64 d)
  lt : B < w.heap.size
theorem Box4.next {w w' : World} {B N : Nat} {a b c d : Int} (h : Box4 w B a b c d) (k : Below N w w') (hN : B < N) : Box4 w' B a b c d := by
  have kc : ∀ o : Nat, w'.cell? ⟨B, o, none⟩ = w.cell? ⟨B, o, none⟩ := fun o => k.cell (p := ⟨B, o, none⟩) hN
  exact ⟨(kc 0).trans h.c0, (kc 1).trans h.c1, (kc 2).trans h.c2, (kc 3).trans h.c3, Nat.lt_of_lt_of_le h.lt k.size⟩
theorem Box4.new (w : World) (a b c d : Int) (t : TypeId) : Box4 (w.alloc (.cells #[.int .i64 a, .int .i64 b, .int .i64 c, .int .i64 d] t)) w.heap.size a b c d := by
  have e := heap_alloc_new w (.cells #[.int .i64 a, .int .i64 b, .int .i64 c, .int .i64 d] t)
  refine ⟨?_, ?_, ?_, ?_, by simp⟩
  all_goals (rw [Lib.cell_of_heap e]; rfl)
theorem row_drawn {w : World} {B e z n : Nat} {v : Value} {xs : List Value} (h : w.ownsRow B e z v n xs) (q : Nat) : (w.drewN q).ownsRow B e z v n xs :=
  (Rolled.drawn w.heap.size w q).row h (fun e => by have := (h.lt _ e).2; omega)
def Cells4 (t : TypeId) (w : World) (B : Nat) (a b x d : Int) : Prop := w.heap[B]? = some (.cells #[.int .i64 a, .int .i64 b, .int .i64 x, .int .i64 d] t (0, 0))
section
variable {T : TypeId} {w w' : World} {B : Nat} {a b x d : Int}
theorem Cells4.box (h : Cells4 T w B a b x d) : Box4 w B a b x d := by
  unfold Cells4 at h
  refine ⟨?_, ?_, ?_, ?_, (Array.getElem?_eq_some_iff.1 h).1⟩
  all_goals (rw [Lib.cell_of_heap h]; rfl)
theorem Cells4.free (h : Cells4 T w B a b x d) (j : Nat) : w.frozen? ⟨B, j, none⟩ = false := cells_free h j
theorem Cells4.lt (h : Cells4 T w B a b x d) : B < w.heap.size := (Array.getElem?_eq_some_iff.1 h).1
theorem Cells4.under (h : Cells4 T w B a b x d) (k : Below w.heap.size w w') : Cells4 T w' B a b x d := (k.block _ h.lt).trans h
theorem Cells4.roll {g : Nat} (h : Cells4 T w B a b x d) (k : Rolled g w w') (hg : B ≠ g) : Cells4 T w' B a b x d := (k.block _ hg).trans h
theorem Cells4.set0 (h : Cells4 T w B a b x d) (v : Int) : Cells4 T (w.setCell ⟨B, 0, none⟩ (.int .i64 v)) B v b x d := by unfold Cells4; rw [heap_setCell_same w B 0 _ _ _ h]; rfl
theorem Cells4.set1 (h : Cells4 T w B a b x d) (v : Int) : Cells4 T (w.setCell ⟨B, 1, none⟩ (.int .i64 v)) B a v x d := by unfold Cells4; rw [heap_setCell_same w B 1 _ _ _ h]; rfl
theorem Cells4.set2 (h : Cells4 T w B a b x d) (v : Int) : Cells4 T (w.setCell ⟨B, 2, none⟩ (.int .i64 v)) B a b v d := by unfold Cells4; rw [heap_setCell_same w B 2 _ _ _ h]; rfl
theorem Cells4.set3 (h : Cells4 T w B a b x d) (v : Int) : Cells4 T (w.setCell ⟨B, 3, none⟩ (.int .i64 v)) B a b x v := by unfold Cells4; rw [heap_setCell_same w B 3 _ _ _ h]; rfl
theorem Cells4.all (h : Cells4 T w B a b x d) (v0 v1 v2 v3 : Int) : Cells4 T ((((w.setCell ⟨B, 0, none⟩ (.int .i64 v0)).setCell ⟨B, 1, none⟩ (.int .i64 v1)).setCell ⟨B, 2, none⟩ (.int .i64 v2)).setCell ⟨B, 3, none⟩ (.int .i64 v3)) B v0 v1 v2 v3 :=
  (((h.set0 v0).set1 v1).set2 v2).set3 v3
end
theorem Cells4.new (w : World) (a b x d : Int) (T : TypeId) : Cells4 T (w.alloc (.cells #[.int .i64 a, .int .i64 b, .int .i64 x, .int .i64 d] T)) w.heap.size a b x d := heap_alloc_new w _
theorem load_grid {w : World} {B : Nat} {a b x d : Int} (h : Cells4 52 w B a b x d) : (loadVar 52 ⟨B, 0, none⟩).run Tryz.prog w = .ok (.agg #[.int .i64 a, .int .i64 b, .int .i64 x, .int .i64 d]) w := by
  obtain ⟨h0, h1, h2, h3, _⟩ := h.box
  simp [loadVar, go_sem, h0, h1, h2, h3]
theorem DE.trans {w0 w1 w2 : World} {g c k k' : Nat} {A : Option Addr} {L : List Int} (h : DE w0 g c A L k w1) (h' : DE w1 g c A L k' w2) : DE w0 g c A L k' w2 := ⟨h'.d, h.p.trans h'.p h.p.size⟩
theorem DE.toBelow {w0 w1 : World} {g c k B : Nat} {A : Option Addr} {L : List Int} (h : DE w0 g c A L k w1) (h1 : B ≤ w0.heap.size) (h2 : B ≤ g) : Below B w0 w1 := h.p.toBelow h1 h2
def MadeG (d s b m : Int) : Prop := (1 ≤ d ∧ d ≤ 5) ∧ (2 ≤ s ∧ s ≤ 8) ∧ (480 ≤ b ∧ b ≤ 585) ∧ (30 ≤ m ∧ m ≤ 60)
def FourP (ok : Int → Int → Int → Int → Prop) (g c : Nat) (A : Option Addr) (L : List Int) (w0 : World) (e : Ending) (w' : World) : Prop :=
  ∃ a b x d k', e = .returned (.agg #[.int .i64 a, .int .i64 b, .int .i64 x, .int .i64 d]) ∧ ok a b x d ∧ DE w0 g c A L k' w'
structure R1 (T : TypeId) (w0 : World) (g c : Nat) (A : Option Addr) (L : List Int) (k : Nat) (w : World) : Prop where
  e : DE w0 g c A L k w
  r : Cells4 T w w0.heap.size 0 0 0 0
  g0 : g < w0.heap.size
theorem R1.roll {T : TypeId} {w0 w w' : World} {g c k k' : Nat} {A : Option Addr} {L : List Int} (h : R1 T w0 g c A L k w) (hd : DiceAt w' g A L c k') (hr : Rolled g w w') : R1 T w0 g c A L k' w' :=
  ⟨h.e.next hd hr, h.r.roll hr (by have := h.g0; omega), h.g0⟩
theorem R1.first {w : World} {g c k : Nat} {A : Option Addr} {L : List Int} (h : DiceAt w g A L c k) (T : TypeId) : R1 T w g c A L k (w.alloc (.cells #[.int .i64 0, .int .i64 0, .int .i64 0, .int .i64 0] T)) :=
  ⟨(DE.first h).alloc _, Cells4.new w 0 0 0 0 T, h.lt⟩
set_option maxHeartbeats 4000000 in
set_option maxRecDepth 100000 in
theorem grid_any (g c k : Nat) (A : Option Addr) (L : List Int) (w : World) (h : DiceAt w g A L c k) : Calls Tryz.prog 26 #[.pointer (some ⟨g, 0, none⟩)] w (FourP MadeG g c A L w) := by
  have HN := hid (fun (W : World) k n hn (h : DiceAt W g A L c k) => next_at g c k A L n hn W h)
  have HR := hid (R1.first h 52)
  clear h
  go_enter Tryz.func26, Tryz.ntmps26
  go_wp2_with fail
  generalize w.alloc (.cells #[.int .i64 0, .int .i64 0, .int .i64 0, .int .i64 0] 52) = w1 at HR ⊢
  refine (HN.out _ _ _ (by omega) HR.out.e.d).mono ?_
  rintro e w2 ⟨rfl, hd, hR⟩
  obtain ⟨r1, hr1⟩ : ∃ r, rollV L k 5 = r := ⟨_, rfl⟩
  have q1 := rollV_range L k 5 (by omega)
  rw [hr1] at q1 ⊢
  have HR2 := hid (HR.out.roll hd hR)
  generalize rollK L k = k1 at HR2
  clear hr1 hd hR HR
  go_wp2_with fail
  refine (HN.out _ _ _ (by omega) HR2.out.e.d).mono ?_
  rintro e w3 ⟨rfl, hd, hR⟩
  obtain ⟨r2, hr2⟩ : ∃ r, rollV L k1 7 = r := ⟨_, rfl⟩
  have q2 := rollV_range L k1 7 (by omega)
  rw [hr2] at q2 ⊢
  have HR3 := hid (HR2.out.roll hd hR)
  generalize rollK L k1 = k2 at HR3
  clear hr2 hd hR HR2
  go_wp2_with fail
  refine (HN.out _ _ _ (by omega) HR3.out.e.d).mono ?_
  rintro e w4 ⟨rfl, hd, hR⟩
  obtain ⟨r3, hr3⟩ : ∃ r, rollV L k2 8 = r := ⟨_, rfl⟩
  have q3 := rollV_range L k2 8 (by omega)
  rw [hr3] at q3 ⊢
  have HR4 := hid (HR3.out.roll hd hR)
  generalize rollK L k2 = k3 at HR4
  clear hr3 hd hR HR3
  have v3 : IntKind.i64.wrap (15 * r3) = 15 * r3 := IntWalk.i64_in _ (by omega)
  have v3' : IntKind.i64.wrap (480 + 15 * r3) = 480 + 15 * r3 := IntWalk.i64_in _ (by clear v3; omega)
  go_wp2_with fail
  refine (HN.out _ _ _ (by omega) HR4.out.e.d).mono ?_
  rintro e w5 ⟨rfl, hd, hR⟩
  obtain ⟨r4, hr4⟩ : ∃ r, rollV L k3 3 = r := ⟨_, rfl⟩
  have q4 := rollV_range L k3 3 (by omega)
  rw [hr4] at q4 ⊢
  have HR5 := hid (HR4.out.roll hd hR)
  generalize rollK L k3 = k4 at HR5
  clear hr4 hd hR HR4
  have v4 : IntKind.i64.wrap (15 * r4) = 15 * r4 := IntWalk.i64_in _ (by clear v3 v3'; omega)
  have v4' : IntKind.i64.wrap (30 + 15 * r4) = 30 + 15 * r4 := IntWalk.i64_in _ (by clear v3 v3' v4; omega)
  obtain ⟨x0, x1, x2, x3, _⟩ := HR5.out.r.box
  have f0 := HR5.out.r.free 0
  have f1 := HR5.out.r.free 1
  have f2 := HR5.out.r.free 2
  have f3 := HR5.out.r.free 3
  have hg := HR5.out.g0
  go_wp2_with fail
  refine bodyPost_ret (v := .agg #[.int .i64 (1 + r1), .int .i64 (2 + r2), .int .i64 (480 + 15 * r3), .int .i64 (30 + 15 * r4)]) (results_c rfl _ _ _ ⟨w.heap.size, 0, none⟩ _ rfl (load_grid (HR5.out.r.all _ _ _ _))) rfl ?_
  exact ⟨_, _, _, _, _, rfl, ⟨by omega, by omega, by clear v3 v3' v4 v4'; omega, by clear v3 v3' v4 v4'; omega⟩, (((HR5.out.e.set _ _ _ (Nat.le_refl _) hg).set _ _ _ (Nat.le_refl _) hg).set _ _ _ (Nat.le_refl _) hg).set _ _ _ (Nat.le_refl _) hg⟩
end Go.Proofs.YtlgmanbilaminaaGreatDoor
