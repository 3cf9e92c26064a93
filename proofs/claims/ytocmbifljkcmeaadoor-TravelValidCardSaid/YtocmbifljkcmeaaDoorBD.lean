/-
  Times and rooms in memory: slices of structs that came in, or that the call made. No program beyond the types' facts.
  Records, problems in memory. No program beyond the types' facts.
-/
import Derived.Test.YtocmbifljkcmeaaDoorBB
import Derived.Test.YtocmbifljkcmeaaDoorBC
set_option linter.unusedVariables false
namespace Go.Proofs.YtocmbifljkcmeaaDoor
open Go Go.Proofs Go.RowKit Go.Lib

/-- The slice at A holds the times l, in a block with P. -/
def TimesIn (w : World) (P : Nat → Prop) (A : Option Addr) (l : List TimeD) : Prop :=
  (∀ t ∈ l, t.2.2.1 ≤ 9223372036854775807) ∧ (l = [] ∨ ∃ b off, A = some ⟨b, off, none⟩ ∧ P b ∧ ∀ (j : Nat) (t : TimeD), l[j]? = some t → ∀ (i : Nat) (v : Value), (timeVs t)[i]? = some v → w.cell? ⟨b, off + j * 4 + i, none⟩ = some v)
theorem TimesIn.nil (w : World) (P : Nat → Prop) (A : Option Addr) : TimesIn w P A [] := ⟨fun t h => by simp at h, .inl rfl⟩
theorem TimesIn.kept {w w' : World} {P : Nat → Prop} {A : Option Addr} {l : List TimeD} (h : TimesIn w P A l) (hk : ∀ b, P b → w'.heap[b]? = w.heap[b]?) : TimesIn w' P A l := by
  rcases h with ⟨hle, h | ⟨b, off, hA, hP, hc⟩⟩
  · exact ⟨hle, .inl h⟩
  · exact ⟨hle, .inr ⟨b, off, hA, hP, fun j t hj i v hv => (World.cell?_of_block (w := w) (hk b hP)).trans (hc j t hj i v hv)⟩⟩
theorem TimesIn.mono {w : World} {P P' : Nat → Prop} {A : Option Addr} {l : List TimeD} (h : TimesIn w P A l) (hP : ∀ b, P b → P' b) : TimesIn w P' A l := by
  rcases h with ⟨hle, h | ⟨b, off, hA, hb, hc⟩⟩
  · exact ⟨hle, .inl h⟩
  · exact ⟨hle, .inr ⟨b, off, hA, hP b hb, hc⟩⟩
theorem TimesIn.below {w w' : World} {B : Nat} {A : Option Addr} {l : List TimeD} (h : TimesIn w (fun b => b < B) A l) (hb : Below B w w') : TimesIn w' (fun b => b < B) A l := h.kept fun b hB => hb.block b hB
theorem TimesIn.le {w : World} {P : Nat → Prop} {A : Option Addr} {l : List TimeD} (h : TimesIn w P A l) {k : Nat} (hk : k < l.length) : l[k].2.2.1 ≤ 9223372036854775807 := h.1 _ (List.getElem_mem hk)
theorem TimesIn.at_ {w : World} {P : Nat → Prop} {A : Option Addr} {l : List TimeD} (h : TimesIn w P A l) {k : Nat} (hk : k < l.length) :
    ∃ b off, A = some ⟨b, off, none⟩ ∧ P b ∧ w.cell? ⟨b, off + k * 4, none⟩ = some (.int .i64 l[k].1) ∧ w.cell? ⟨b, off + k * 4 + 1, none⟩ = some (.int .i64 l[k].2.1) ∧ w.cell? ⟨b, off + k * 4 + 2, none⟩ = some (.int .i64 l[k].2.2.1) ∧ w.cell? ⟨b, off + k * 4 + 3, none⟩ = some (.int .i64 l[k].2.2.2) := by
  rcases h with ⟨hle, h | ⟨b, off, hA, hP, hc⟩⟩
  · subst h; simp at hk
  · have hg := List.getElem?_eq_getElem hk
    exact ⟨b, off, hA, hP, hc k _ hg 0 _ rfl, hc k _ hg 1 _ rfl, hc k _ hg 2 _ rfl, hc k _ hg 3 _ rfl⟩
theorem S3.StrsIn.below {w w' : World} {B : Nat} {A : Option Addr} {l : List Str} (h : S3.StrsIn w (fun b => b < B) A l) (hb : Below B w w') : S3.StrsIn w' (fun b => b < B) A l := h.kept fun b hB => hb.block b hB

/-- The five parts of a room, as they lie in memory. -/
structure Room5 where
  a1 : Option Addr
  c1 : Nat
  a2 : Option Addr
  c2 : Nat
def roomVs (r : RoomD) (q : Room5) : List Value := [.string (ba r.1), .string (ba r.2.1), .int .i64 r.2.2.1, .slice q.a1 r.2.2.2.1.length q.c1, .slice q.a2 r.2.2.2.2.length q.c2]
def roomV (r : RoomD) (q : Room5) : Value := .agg #[.string (ba r.1), .string (ba r.2.1), .int .i64 r.2.2.1, .slice q.a1 r.2.2.2.1.length q.c1, .slice q.a2 r.2.2.2.2.length q.c2]
/-- What a room's slices lead to. -/
structure RoomIn (w : World) (P : Nat → Prop) (r : RoomD) (q : Room5) : Prop where
  f : S3.StrsIn w P q.a1 r.2.2.2.1
  t : TimesIn w P q.a2 r.2.2.2.2
  f1 : r.2.2.2.1.length ≤ q.c1
  f2 : q.c1 ≤ 9223372036854775807
  t1 : r.2.2.2.2.length ≤ q.c2
  t2 : q.c2 ≤ 9223372036854775807
theorem RoomIn.kept {w w' : World} {P : Nat → Prop} {r : RoomD} {q : Room5} (h : RoomIn w P r q) (hk : ∀ b, P b → w'.heap[b]? = w.heap[b]?) : RoomIn w' P r q :=
  ⟨h.f.kept hk, h.t.kept hk, h.f1, h.f2, h.t1, h.t2⟩
theorem RoomIn.mono {w : World} {P P' : Nat → Prop} {r : RoomD} {q : Room5} (h : RoomIn w P r q) (hP : ∀ b, P b → P' b) : RoomIn w P' r q := ⟨h.f.mono hP, h.t.mono hP, h.f1, h.f2, h.t1, h.t2⟩
theorem RoomIn.below {w w' : World} {B : Nat} {r : RoomD} {q : Room5} (h : RoomIn w (fun b => b < B) r q) (hb : Below B w w') : RoomIn w' (fun b => b < B) r q := h.kept fun b hB => hb.block b hB
/-- Five cells from a place on. -/
def Cells5 (w : World) (b o : Nat) (v0 v1 v2 v3 v4 : Value) : Prop := w.cell? ⟨b, o, none⟩ = some v0 ∧ w.cell? ⟨b, o + 1, none⟩ = some v1 ∧ w.cell? ⟨b, o + 2, none⟩ = some v2 ∧ w.cell? ⟨b, o + 3, none⟩ = some v3 ∧ w.cell? ⟨b, o + 4, none⟩ = some v4
theorem Cells5.kept {w w' : World} {b o : Nat} {v0 v1 v2 v3 v4 : Value} (h : Cells5 w b o v0 v1 v2 v3 v4) (hk : w'.heap[b]? = w.heap[b]?) : Cells5 w' b o v0 v1 v2 v3 v4 := by
  obtain ⟨h0, h1, h2, h3, h4⟩ := h
  exact ⟨(World.cell?_of_block (w := w) hk).trans h0, (World.cell?_of_block (w := w) hk).trans h1, (World.cell?_of_block (w := w) hk).trans h2, (World.cell?_of_block (w := w) hk).trans h3, (World.cell?_of_block (w := w) hk).trans h4⟩
/-- The slice at A holds the rooms l, in blocks with P. -/
def RoomsIn (w : World) (P : Nat → Prop) (A : Option Addr) (l : List RoomD) : Prop :=
  l = [] ∨ ∃ b off, A = some ⟨b, off, none⟩ ∧ P b ∧ ∀ (j : Nat) (r : RoomD), l[j]? = some r → ∃ q, RoomIn w P r q ∧ ∀ (i : Nat) (v : Value), (roomVs r q)[i]? = some v → w.cell? ⟨b, off + j * 5 + i, none⟩ = some v
theorem RoomsIn.kept {w w' : World} {P : Nat → Prop} {A : Option Addr} {l : List RoomD} (h : RoomsIn w P A l) (hk : ∀ b, P b → w'.heap[b]? = w.heap[b]?) : RoomsIn w' P A l := by
  rcases h with h | ⟨b, off, hA, hP, hc⟩
  · exact .inl h
  · refine .inr ⟨b, off, hA, hP, fun j r hj => ?_⟩
    obtain ⟨q, h1, h2⟩ := hc j r hj
    exact ⟨q, h1.kept hk, fun i v hv => (World.cell?_of_block (w := w) (hk b hP)).trans (h2 i v hv)⟩
theorem RoomsIn.mono {w : World} {P P' : Nat → Prop} {A : Option Addr} {l : List RoomD} (h : RoomsIn w P A l) (hP : ∀ b, P b → P' b) : RoomsIn w P' A l := by
  rcases h with h | ⟨b, off, hA, hb, hc⟩
  · exact .inl h
  · refine .inr ⟨b, off, hA, hP b hb, fun j r hj => ?_⟩
    obtain ⟨q, h1, h2⟩ := hc j r hj
    exact ⟨q, h1.mono hP, h2⟩
theorem RoomsIn.below {w w' : World} {B : Nat} {A : Option Addr} {l : List RoomD} (h : RoomsIn w (fun b => b < B) A l) (hb : Below B w w') : RoomsIn w' (fun b => b < B) A l := h.kept fun b hB => hb.block b hB
theorem RoomsIn.at_ {w : World} {P : Nat → Prop} {A : Option Addr} {l : List RoomD} (h : RoomsIn w P A l) {k : Nat} (hk : k < l.length) :
    ∃ b off q, A = some ⟨b, off, none⟩ ∧ P b ∧ RoomIn w P l[k] q ∧ Cells5 w b (off + k * 5) (.string (ba l[k].1)) (.string (ba l[k].2.1)) (.int .i64 l[k].2.2.1) (.slice q.a1 l[k].2.2.2.1.length q.c1) (.slice q.a2 l[k].2.2.2.2.length q.c2) := by
  rcases h with h | ⟨b, off, hA, hP, hc⟩
  · subst h; simp at hk
  · obtain ⟨q, h1, h2⟩ := hc k _ (List.getElem?_eq_getElem hk)
    exact ⟨b, off, q, hA, hP, h1, h2 0 _ rfl, h2 1 _ rfl, h2 2 _ rfl, h2 3 _ rfl, h2 4 _ rfl⟩

end Go.Proofs.YtocmbifljkcmeaaDoor

set_option linter.unusedVariables false
namespace Go.Proofs.YtocmbifljkcmeaaDoor
open Go Go.Proofs Go.RowKit Go.Lib

abbrev FieldD := Str × Int × Bool
abbrev RecD := Int × List FieldD
abbrev ProbD := Int × Int × Int
def fieldVs (f : FieldD) : List Value := [.string (ba f.1), .int .i64 f.2.1, .bool f.2.2]
/-- The slice at A holds the fields l, in a block with P. -/
def FieldsIn (w : World) (P : Nat → Prop) (A : Option Addr) (l : List FieldD) : Prop :=
  l = [] ∨ ∃ b off, A = some ⟨b, off, none⟩ ∧ P b ∧ ∀ (j : Nat) (t : FieldD), l[j]? = some t → ∀ (i : Nat) (v : Value), (fieldVs t)[i]? = some v → w.cell? ⟨b, off + j * 3 + i, none⟩ = some v
theorem FieldsIn.kept {w w' : World} {P : Nat → Prop} {A : Option Addr} {l : List FieldD} (h : FieldsIn w P A l) (hk : ∀ b, P b → w'.heap[b]? = w.heap[b]?) : FieldsIn w' P A l := by
  rcases h with h | ⟨b, off, hA, hP, hc⟩
  · exact .inl h
  · exact .inr ⟨b, off, hA, hP, fun j t hj i v hv => (World.cell?_of_block (w := w) (hk b hP)).trans (hc j t hj i v hv)⟩
theorem FieldsIn.mono {w : World} {P P' : Nat → Prop} {A : Option Addr} {l : List FieldD} (h : FieldsIn w P A l) (hP : ∀ b, P b → P' b) : FieldsIn w P' A l := by
  rcases h with h | ⟨b, off, hA, hb, hc⟩
  · exact .inl h
  · exact .inr ⟨b, off, hA, hP b hb, hc⟩
theorem FieldsIn.below {w w' : World} {B : Nat} {A : Option Addr} {l : List FieldD} (h : FieldsIn w (fun b => b < B) A l) (hb : Below B w w') : FieldsIn w' (fun b => b < B) A l := h.kept fun b hB => hb.block b hB
theorem FieldsIn.at_ {w : World} {P : Nat → Prop} {A : Option Addr} {l : List FieldD} (h : FieldsIn w P A l) {k : Nat} (hk : k < l.length) :
    ∃ b off, A = some ⟨b, off, none⟩ ∧ P b ∧ w.cell? ⟨b, off + k * 3, none⟩ = some (.string (ba l[k].1)) ∧ w.cell? ⟨b, off + k * 3 + 1, none⟩ = some (.int .i64 l[k].2.1) ∧ w.cell? ⟨b, off + k * 3 + 2, none⟩ = some (.bool l[k].2.2) := by
  rcases h with h | ⟨b, off, hA, hP, hc⟩
  · subst h; simp at hk
  · have hg := List.getElem?_eq_getElem hk
    exact ⟨b, off, hA, hP, hc k _ hg 0 _ rfl, hc k _ hg 1 _ rfl, hc k _ hg 2 _ rfl⟩
/-- The slice at A holds the records l, in blocks with P. -/
def RecsIn (w : World) (P : Nat → Prop) (A : Option Addr) (l : List RecD) : Prop :=
  l = [] ∨ ∃ b off, A = some ⟨b, off, none⟩ ∧ P b ∧ ∀ (j : Nat) (r : RecD), l[j]? = some r → ∃ A' c', FieldsIn w P A' r.2 ∧ r.2.length ≤ c' ∧ c' ≤ 9223372036854775807 ∧ w.cell? ⟨b, off + j * 2, none⟩ = some (.int .i64 r.1) ∧ w.cell? ⟨b, off + j * 2 + 1, none⟩ = some (.slice A' r.2.length c')
theorem RecsIn.kept {w w' : World} {P : Nat → Prop} {A : Option Addr} {l : List RecD} (h : RecsIn w P A l) (hk : ∀ b, P b → w'.heap[b]? = w.heap[b]?) : RecsIn w' P A l := by
  rcases h with h | ⟨b, off, hA, hP, hc⟩
  · exact .inl h
  · refine .inr ⟨b, off, hA, hP, fun j r hj => ?_⟩
    obtain ⟨A', c', h1, h2, h3, h4, h5⟩ := hc j r hj
    exact ⟨A', c', h1.kept hk, h2, h3, (World.cell?_of_block (w := w) (hk b hP)).trans h4, (World.cell?_of_block (w := w) (hk b hP)).trans h5⟩
theorem RecsIn.mono {w : World} {P P' : Nat → Prop} {A : Option Addr} {l : List RecD} (h : RecsIn w P A l) (hP : ∀ b, P b → P' b) : RecsIn w P' A l := by
  rcases h with h | ⟨b, off, hA, hb, hc⟩
  · exact .inl h
  · refine .inr ⟨b, off, hA, hP b hb, fun j r hj => ?_⟩
    obtain ⟨A', c', h1, h2, h3, h4, h5⟩ := hc j r hj
    exact ⟨A', c', h1.mono hP, h2, h3, h4, h5⟩
theorem RecsIn.below {w w' : World} {B : Nat} {A : Option Addr} {l : List RecD} (h : RecsIn w (fun b => b < B) A l) (hb : Below B w w') : RecsIn w' (fun b => b < B) A l := h.kept fun b hB => hb.block b hB
theorem RecsIn.at_ {w : World} {P : Nat → Prop} {A : Option Addr} {l : List RecD} (h : RecsIn w P A l) {k : Nat} (hk : k < l.length) :
    ∃ b off A' c', A = some ⟨b, off, none⟩ ∧ P b ∧ FieldsIn w P A' l[k].2 ∧ l[k].2.length ≤ c' ∧ c' ≤ 9223372036854775807 ∧ w.cell? ⟨b, off + k * 2, none⟩ = some (.int .i64 l[k].1) ∧ w.cell? ⟨b, off + k * 2 + 1, none⟩ = some (.slice A' l[k].2.length c') := by
  rcases h with h | ⟨b, off, hA, hP, hc⟩
  · subst h; simp at hk
  · obtain ⟨A', c', h1, h2, h3, h4, h5⟩ := hc k _ (List.getElem?_eq_getElem hk)
    exact ⟨b, off, A', c', hA, hP, h1, h2, h3, h4, h5⟩

/-! ### rows that the call owns: times, rooms, problems -/
theorem infoProb : (Tryd.prog.info? 78).map (fun i => (i.zero, i.size, i.bytes)) = some (some (.agg #[.int .i64 0, .int .i64 0, .int .i64 0, .int .i64 0]), 4, 32) := by kernel_rfl
def timeVals (l : List TimeD) : List Value := l.flatMap timeVs
theorem timeVals_app (a b : List TimeD) : timeVals (a ++ b) = timeVals a ++ timeVals b := by simp [timeVals]
theorem timeVals_len : ∀ l : List TimeD, (timeVals l).length = l.length * 4
  | [] => rfl
  | t :: r => by
    have := timeVals_len r
    unfold timeVals at this ⊢
    rw [List.flatMap_cons, List.length_append, this, List.length_cons]
    show 4 + _ = _
    omega
theorem timeVals_get : ∀ (l : List TimeD) (j : Nat) (t : TimeD), l[j]? = some t → ∀ (i : Nat) (v : Value), (timeVs t)[i]? = some v → (timeVals l)[j * 4 + i]? = some v
  | [], j, t, h, _, _, _ => by simp at h
  | a :: r, 0, t, h, i, v, hv => by
    simp at h
    subst h
    have hi : i < 4 := (List.getElem?_eq_some_iff.1 hv).1
    unfold timeVals
    rw [List.flatMap_cons, List.getElem?_append_left (by show _ < 4; omega)]
    simpa using hv
  | a :: r, j + 1, t, h, i, v, hv => by
    have := timeVals_get r j t (by simpa using h) i v hv
    unfold timeVals at this ⊢
    rw [List.flatMap_cons, List.getElem?_append_right (by show 4 ≤ _; omega)]
    show (List.flatMap timeVs r)[(j + 1) * 4 + i - 4]? = _
    rw [show (j + 1) * 4 + i - 4 = j * 4 + i by omega]
    exact this
theorem timeVals_one : ∀ (l : List TimeD), ∀ u ∈ timeVals l, u.oneCell' = true := by
  intro l u hu
  obtain ⟨t, _, h⟩ := List.mem_flatMap.1 hu
  simp [timeVs] at h
  rcases h with rfl | rfl | rfl | rfl <;> rfl
def probVs (p : ProbD) : List Value := [.int .i64 0, .int .i64 p.1, .int .i64 p.2.1, .int .i64 p.2.2]
def probVals (l : List ProbD) : List Value := l.flatMap probVs
theorem probVals_app (a b : List ProbD) : probVals (a ++ b) = probVals a ++ probVals b := by simp [probVals]
def ProbsRow (w : World) (B : Nat) (v : Value) (l : List ProbD) : Prop := w.ownsRow B 78 4 v l.length (probVals l)
/-- Rooms that the call owns, with what their slices lead to. -/
def roomVals (l : List (RoomD × Room5)) : List Value := l.flatMap fun p => roomVs p.1 p.2
theorem roomVals_app (a b : List (RoomD × Room5)) : roomVals (a ++ b) = roomVals a ++ roomVals b := by simp [roomVals]
theorem roomVals_get : ∀ (l : List (RoomD × Room5)) (j : Nat) (t : RoomD × Room5), l[j]? = some t → ∀ (i : Nat) (v : Value), (roomVs t.1 t.2)[i]? = some v → (roomVals l)[j * 5 + i]? = some v
  | [], j, t, h, _, _, _ => by simp at h
  | a :: r, 0, t, h, i, v, hv => by
    simp at h
    subst h
    have hi : i < 5 := (List.getElem?_eq_some_iff.1 hv).1
    unfold roomVals
    rw [List.flatMap_cons, List.getElem?_append_left (by show _ < 5; omega)]
    simpa using hv
  | a :: r, j + 1, t, h, i, v, hv => by
    have := roomVals_get r j t (by simpa using h) i v hv
    unfold roomVals at this ⊢
    rw [List.flatMap_cons, List.getElem?_append_right (by show 5 ≤ _; omega)]
    show (List.flatMap _ r)[(j + 1) * 5 + i - 5]? = _
    rw [show (j + 1) * 5 + i - 5 = j * 5 + i by omega]
    exact this
end Go.Proofs.YtocmbifljkcmeaaDoor

