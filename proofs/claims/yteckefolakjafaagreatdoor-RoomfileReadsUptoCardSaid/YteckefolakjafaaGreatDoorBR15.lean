/-
  Lists of strings in memory. No program beyond the types' facts, no conditions.
  Times and rooms in memory: slices of structs that came in, or that the call made. No program beyond the types' facts.
  Numbers with a width, and a code's last number: plain mathematics. No program, no conditions.
  Natural order: the program's compareNumbers, compareElements. Conditions: the strings fit into memory.
-/
import Derived.Test.YteckefolakjafaaGreatDoorBR14
import Derived.Test.YteckefolakjafaaGreatDoorBR13
import Derived.Test.YteckefolakjafaaGreatDoorBR04
import Derived.Lib.ItoaNum
import Derived.Lib.Atoi
import Derived.Lib.SlTrimSet
set_option linter.unusedVariables false
namespace Go.Proofs.YteckefolakjafaaGreatDoor.S3
open Go Go.Proofs Go.RowKit Go.Lib

def strV (s : Str) : Value := .string ⟨s.toArray⟩
/-- The slice at A holds the strings l, in a block with P. -/
def StrsIn (w : World) (P : Nat → Prop) (A : Option Addr) (l : List Str) : Prop :=
  l = [] ∨ ∃ b off, A = some ⟨b, off, none⟩ ∧ P b ∧ ∀ (j : Nat) (s : Str), l[j]? = some s → w.cell? ⟨b, off + j, none⟩ = some (strV s)
theorem StrsIn.kept {w w' : World} {P : Nat → Prop} {A : Option Addr} {l : List Str} (h : StrsIn w P A l) (hk : ∀ b, P b → w'.heap[b]? = w.heap[b]?) : StrsIn w' P A l := by
  rcases h with h | ⟨b, off, hA, hP, hc⟩
  · exact .inl h
  · exact .inr ⟨b, off, hA, hP, fun j s hj => (World.cell?_of_block (w := w) (hk b hP)).trans (hc j s hj)⟩
theorem StrsIn.mono {w : World} {P P' : Nat → Prop} {A : Option Addr} {l : List Str} (h : StrsIn w P A l) (hP : ∀ b, P b → P' b) : StrsIn w P' A l := by
  rcases h with h | ⟨b, off, hA, hb, hc⟩
  · exact .inl h
  · exact .inr ⟨b, off, hA, hP b hb, hc⟩
theorem StrsIn.at_ {w : World} {P : Nat → Prop} {A : Option Addr} {l : List Str} (h : StrsIn w P A l) {k : Nat} (hk : k < l.length) :
    ∃ b off, A = some ⟨b, off, none⟩ ∧ P b ∧ w.cell? ⟨b, off + k, none⟩ = some (strV l[k]) := by
  rcases h with h | ⟨b, off, hA, hP, hc⟩
  · subst h; simp at hk
  · exact ⟨b, off, hA, hP, hc k _ (List.getElem?_eq_getElem hk)⟩

theorem infoStr : (Tryz.prog.info? 9).map (fun i => (i.zero, i.size, i.bytes)) = some (some (.string ⟨#[]⟩), 1, 16) := by kernel_rfl
def strVals (l : List Str) : List Value := l.map strV
theorem strVals_len (l : List Str) : (strVals l).length = l.length := by simp [strVals]
theorem strVals_app (a b : List Str) : strVals (a ++ b) = strVals a ++ strVals b := by simp [strVals]
/-- A row of strings that the call owns. -/
def StrRow (w : World) (B : Nat) (v : Value) (l : List Str) : Prop := w.ownsRow B 9 1 v l.length (strVals l)
theorem StrRow.strsIn {w : World} {B : Nat} {v : Value} {l : List Str} (h : StrRow w B v l) : ∃ A c, v = .slice A l.length c ∧ l.length ≤ c ∧ c ≤ 9223372036854775807 ∧ StrsIn w (fun b => B ≤ b ∧ b < w.heap.size) A l := by
  have h' := h
  rcases h.2 with ⟨hv, h0⟩ | ⟨g, cap, cur, hv, hB, hg, h1, h2, _⟩
  · have hl : l = [] := List.eq_nil_of_length_eq_zero h0
    subst hl
    exact ⟨none, 0, hv, Nat.le_refl _, by omega, .inl rfl⟩
  · refine ⟨_, cap, hv, h1, by unfold maxLen at h2; omega, .inr ⟨g, 0, rfl, ⟨hB, (Array.getElem?_eq_some_iff.1 hg).1⟩, fun j s hj => ?_⟩⟩
    have := World.ownsRow.cells h' (g := g) (by rw [hv]; rfl) j (strV s) (by unfold strVals; rw [List.getElem?_map, hj]; rfl)
    rwa [Addr.add_lit] at this
theorem StrRow.mono {w : World} {B B' : Nat} {v : Value} {l : List Str} (h : StrRow w B v l) (hB : B' ≤ B) : StrRow w B' v l := by
  obtain ⟨h1, h2⟩ := h
  refine ⟨h1, ?_⟩
  rcases h2 with h2 | ⟨g, cap, cur, hv, hg, r⟩
  · exact .inl h2
  · exact .inr ⟨g, cap, cur, hv, by omega, r⟩
theorem StrRow.played {B F g : Nat} {a w : World} {v : Value} {l : List Str} (hr : StrRow a B v l) (h : Played F g a w) (hg : g < B) (hF : a.heap.size ≤ F) : StrRow w B v l :=
  h.row hr (fun k hk => by have := hr.lt k hk; omega)
theorem StrRow.rolled {B g : Nat} {a w : World} {v : Value} {l : List Str} (hr : StrRow a B v l) (h : Rolled g a w) (hg : g < B) : StrRow w B v l :=
  h.row hr (fun e => by have := hr.lt g e; omega)
theorem StrRow.one {B : Nat} {w : World} {v : Value} {l : List Str} (hr : StrRow w B v l) : ∀ u ∈ [v], u.oneCell' = true := by
  intro u hu
  simp at hu
  subst hu
  rcases hr.2 with ⟨h, _⟩ | ⟨g, cap, cur, h, _⟩ <;> rw [h] <;> rfl
theorem one_str (s : ByteArray) : ∀ u ∈ [Value.string s], u.oneCell' = true := by
  intro u hu
  simp at hu
  subst hu
  rfl

theorem row_under {w w' : World} {B e z n : Nat} {v : Value} {xs : List Value} (h : w.ownsRow B e z v n xs) (hb : Below w.heap.size w w') : w'.ownsRow B e z v n xs := by
  obtain ⟨h1, h2⟩ := h
  refine ⟨h1, ?_⟩
  rcases h2 with h2 | ⟨k, cap, cur, hk, hg, hh, r⟩
  · exact .inl h2
  · exact .inr ⟨k, cap, cur, hk, hg, (hb.block k (Array.getElem?_eq_some_iff.1 hh).1).trans hh, r⟩
set_option maxHeartbeats 1000000 in
theorem row_slice {w : World} {B e z n : Nat} {v : Value} {xs : List Value} (h : w.ownsRow B e z v n xs) : ∃ A c, v = .slice A n c := by
  rcases h.2 with ⟨hv, h0⟩ | ⟨g, cap, cur, hv, _⟩
  · exact ⟨none, 0, by rw [hv, h0]⟩
  · exact ⟨_, cap, hv⟩

end Go.Proofs.YteckefolakjafaaGreatDoor.S3

set_option linter.unusedVariables false
namespace Go.Proofs.YteckefolakjafaaGreatDoor
open Go Go.Proofs Go.RowKit Go.Lib

/-- The slice at A holds the times l, in a block with P. -/
def TimesIn (w : World) (P : Nat → Prop) (A : Option Addr) (l : List TimeD) : Prop :=
  (∀ t ∈ l, t.2.2.1 ≤ 9223372036854775807) ∧ (l = [] ∨ ∃ b off, A = some ⟨b, off, none⟩ ∧ P b ∧ ∀ (j : Nat) (t : TimeD), l[j]? = some t → ∀ (i : Nat) (v : Value), (timeVs t)[i]? = some v → w.cell? ⟨b, off + j * 4 + i, none⟩ = some v)
theorem TimesIn.nil (w : World) (P : Nat → Prop) (A : Option Addr) : TimesIn w P A [] := ⟨fun t h => by simp at h, .inl rfl⟩
theorem TimesIn.kept {w w' : World} {P : Nat → Prop} {A : Option Addr} {l : List TimeD} (h : TimesIn w P A l) (hk : ∀ b, P b → w'.heap[b]? = w.heap[b]?) : TimesIn w' P A l := by
  rcases h with ⟨hle, h | ⟨b, off, hA, hP, hc⟩⟩
  · exact ⟨hle, .inl h⟩
  · exact ⟨hle, .inr ⟨b, off, hA, hP, fun j t hj i v hv => (World.cell?_of_block (w := w) (hk b hP)).trans (hc j t hj i v hv)⟩⟩
theorem TimesIn.mono {w : World} {P P' : Nat → Prop} {A : Option Addr} {l : List TimeD} (h : TimesIn w P A l) (hP : ∀ b, P b → P' b) : TimesIn w P' A l := by
  rcases h with ⟨hle, h | ⟨b, off, hA, hb, hc⟩⟩
  · exact ⟨hle, .inl h⟩
  · exact ⟨hle, .inr ⟨b, off, hA, hP b hb, hc⟩⟩
theorem TimesIn.below {w w' : World} {B : Nat} {A : Option Addr} {l : List TimeD} (h : TimesIn w (fun b => b < B) A l) (hb : Below B w w') : TimesIn w' (fun b => b < B) A l := h.kept fun b hB => hb.block b hB
theorem TimesIn.le {w : World} {P : Nat → Prop} {A : Option Addr} {l : List TimeD} (h : TimesIn w P A l) {k : Nat} (hk : k < l.length) : l[k].2.2.1 ≤ 9223372036854775807 := h.1 _ (List.getElem_mem hk)
theorem TimesIn.at_ {w : World} {P : Nat → Prop} {A : Option Addr} {l : List TimeD} (h : TimesIn w P A l) {k : Nat} (hk : k < l.length) :
    ∃ b off, A = some ⟨b, off, none⟩ ∧ P b ∧ w.cell? ⟨b, off + k * 4, none⟩ = some (.int .i64 l[k].1) ∧ w.cell? ⟨b, off + k * 4 + 1, none⟩ = some (.int .i64 l[k].2.1) ∧ w.cell? ⟨b, off + k * 4 + 2, none⟩ = some (.int .i64 l[k].2.2.1) ∧ w.cell? ⟨b, off + k * 4 + 3, none⟩ = some (.int .i64 l[k].2.2.2) := by
  rcases h with ⟨hle, h | ⟨b, off, hA, hP, hc⟩⟩
  · subst h; simp at hk
  · have hg := List.getElem?_eq_getElem hk
    exact ⟨b, off, hA, hP, hc k _ hg 0 _ rfl, hc k _ hg 1 _ rfl, hc k _ hg 2 _ rfl, hc k _ hg 3 _ rfl⟩
theorem S3.StrsIn.below {w w' : World} {B : Nat} {A : Option Addr} {l : List Str} (h : S3.StrsIn w (fun b => b < B) A l) (hb : Below B w w') : S3.StrsIn w' (fun b => b < B) A l := h.kept fun b hB => hb.block b hB

/-- The five parts of a room, as they lie in memory. -/
structure Room5 where
  a1 : Option Addr
  c1 : Nat
  a2 : Option Addr
  c2 : Nat
def roomVs (r : RoomD) (q : Room5) : List Value := [.string (ba r.1), .string (ba r.2.1), .int .i64 r.2.2.1, .slice q.a1 r.2.2.2.1.length q.c1, .slice q.a2 r.2.2.2.2.length q.c2]
def roomV (r : RoomD) (q : Room5) : Value := .agg #[.string (ba r.1), .string (ba r.2.1), .int .i64 r.2.2.1, .slice q.a1 r.2.2.2.1.length q.c1, .slice q.a2 r.2.2.2.2.length q.c2]
/-- What a room's slices lead to. -/
structure RoomIn (w : World) (P : Nat → Prop) (r : RoomD) (q : Room5) : Prop where
  f : S3.StrsIn w P q.a1 r.2.2.2.1
  t : TimesIn w P q.a2 r.2.2.2.2
  f1 : r.2.2.2.1.length ≤ q.c1
  f2 : q.c1 ≤ 9223372036854775807
  t1 : r.2.2.2.2.length ≤ q.c2
  t2 : q.c2 ≤ 9223372036854775807
theorem RoomIn.kept {w w' : World} {P : Nat → Prop} {r : RoomD} {q : Room5} (h : RoomIn w P r q) (hk : ∀ b, P b → w'.heap[b]? = w.heap[b]?) : RoomIn w' P r q :=
  ⟨h.f.kept hk, h.t.kept hk, h.f1, h.f2, h.t1, h.t2⟩
theorem RoomIn.mono {w : World} {P P' : Nat → Prop} {r : RoomD} {q : Room5} (h : RoomIn w P r q) (hP : ∀ b, P b → P' b) : RoomIn w P' r q := ⟨h.f.mono hP, h.t.mono hP, h.f1, h.f2, h.t1, h.t2⟩
theorem RoomIn.below {w w' : World} {B : Nat} {r : RoomD} {q : Room5} (h : RoomIn w (fun b => b < B) r q) (hb : Below B w w') : RoomIn w' (fun b => b < B) r q := h.kept fun b hB => hb.block b hB
/-- Five cells from a place on. -/
def Cells5 (w : World) (b o : Nat) (v0 v1 v2 v3 v4 : Value) : Prop := w.cell? ⟨b, o, none⟩ = some v0 ∧ w.cell? ⟨b, o + 1, none⟩ = some v1 ∧ w.cell? ⟨b, o + 2, none⟩ = some v2 ∧ w.cell? ⟨b, o + 3, none⟩ = some v3 ∧ w.cell? ⟨b, o + 4, none⟩ = some v4
theorem Cells5.kept {w w' : World} {b o : Nat} {v0 v1 v2 v3 v4 : Value} (h : Cells5 w b o v0 v1 v2 v3 v4) (hk : w'.heap[b]? = w.heap[b]?) : Cells5 w' b o v0 v1 v2 v3 v4 := by
  obtain ⟨h0, h1, h2, h3, h4⟩ := h
  exact ⟨(World.cell?_of_block (w := w) hk).trans h0, (World.cell?_of_block (w := w) hk).trans h1, (World.cell?_of_block (w := w) hk).trans h2, (World.cell?_of_block (w := w) hk).trans h3, (World.cell?_of_block (w := w) hk).trans h4⟩
/-- The slice at A holds the rooms l, in blocks with P. -/
def RoomsIn (w : World) (P : Nat → Prop) (A : Option Addr) (l : List RoomD) : Prop :=
  l = [] ∨ ∃ b off, A = some ⟨b, off, none⟩ ∧ P b ∧ ∀ (j : Nat) (r : RoomD), l[j]? = some r → ∃ q, RoomIn w P r q ∧ ∀ (i : Nat) (v : Value), (roomVs r q)[i]? = some v → w.cell? ⟨b, off + j * 5 + i, none⟩ = some v
theorem RoomsIn.kept {w w' : World} {P : Nat → Prop} {A : Option Addr} {l : List RoomD} (h : RoomsIn w P A l) (hk : ∀ b, P b → w'.heap[b]? = w.heap[b]?) : RoomsIn w' P A l := by
  rcases h with h | ⟨b, off, hA, hP, hc⟩
  · exact .inl h
  · refine .inr ⟨b, off, hA, hP, fun j r hj => ?_⟩
    obtain ⟨q, h1, h2⟩ := hc j r hj
    exact ⟨q, h1.kept hk, fun i v hv => (World.cell?_of_block (w := w) (hk b hP)).trans (h2 i v hv)⟩
theorem RoomsIn.mono {w : World} {P P' : Nat → Prop} {A : Option Addr} {l : List RoomD} (h : RoomsIn w P A l) (hP : ∀ b, P b → P' b) : RoomsIn w P' A l := by
  rcases h with h | ⟨b, off, hA, hb, hc⟩
  · exact .inl h
  · refine .inr ⟨b, off, hA, hP b hb, fun j r hj => ?_⟩
    obtain ⟨q, h1, h2⟩ := hc j r hj
    exact ⟨q, h1.mono hP, h2⟩
theorem RoomsIn.below {w w' : World} {B : Nat} {A : Option Addr} {l : List RoomD} (h : RoomsIn w (fun b => b < B) A l) (hb : Below B w w') : RoomsIn w' (fun b => b < B) A l := h.kept fun b hB => hb.block b hB
theorem RoomsIn.at_ {w : World} {P : Nat → Prop} {A : Option Addr} {l : List RoomD} (h : RoomsIn w P A l) {k : Nat} (hk : k < l.length) :
    ∃ b off q, A = some ⟨b, off, none⟩ ∧ P b ∧ RoomIn w P l[k] q ∧ Cells5 w b (off + k * 5) (.string (ba l[k].1)) (.string (ba l[k].2.1)) (.int .i64 l[k].2.2.1) (.slice q.a1 l[k].2.2.2.1.length q.c1) (.slice q.a2 l[k].2.2.2.2.length q.c2) := by
  rcases h with h | ⟨b, off, hA, hP, hc⟩
  · subst h; simp at hk
  · obtain ⟨q, h1, h2⟩ := hc k _ (List.getElem?_eq_getElem hk)
    exact ⟨b, off, q, hA, hP, h1, h2 0 _ rfl, h2 1 _ rfl, h2 2 _ rfl, h2 3 _ rfl, h2 4 _ rfl⟩

/-- A block of five cells. -/
structure Box5 (w : World) (B : Nat) (v0 v1 v2 v3 v4 : Value) : Prop where
  h : w.heap[B]? = some (.cells #[v0, v1, v2, v3, v4] 46 (0, 0))
theorem Box5.new (w : World) (v0 v1 v2 v3 v4 : Value) : Box5 (w.alloc (.cells #[v0, v1, v2, v3, v4] 46)) w.heap.size v0 v1 v2 v3 v4 := ⟨heap_alloc_new w _⟩
theorem Box5.lt {w : World} {B : Nat} {v0 v1 v2 v3 v4 : Value} (h : Box5 w B v0 v1 v2 v3 v4) : B < w.heap.size := (Array.getElem?_eq_some_iff.1 h.h).1
theorem Box5.kept {w w' : World} {B : Nat} {v0 v1 v2 v3 v4 : Value} (h : Box5 w B v0 v1 v2 v3 v4) (hk : w'.heap[B]? = w.heap[B]?) : Box5 w' B v0 v1 v2 v3 v4 := ⟨hk.trans h.h⟩
theorem Box5.below {w w' : World} {B C : Nat} {v0 v1 v2 v3 v4 : Value} (h : Box5 w B v0 v1 v2 v3 v4) (hb : Below C w w') (hC : B < C) : Box5 w' B v0 v1 v2 v3 v4 := h.kept (hb.block B hC)
theorem Box5.cells {w : World} {B : Nat} {v0 v1 v2 v3 v4 : Value} (h : Box5 w B v0 v1 v2 v3 v4) : Cells5 w B 0 v0 v1 v2 v3 v4 := by
  refine ⟨?_, ?_, ?_, ?_, ?_⟩ <;> (rw [Lib.cell_of_heap h.h]; rfl)
theorem Box5.free {w : World} {B : Nat} {v0 v1 v2 v3 v4 : Value} (h : Box5 w B v0 v1 v2 v3 v4) (j : Nat) : w.frozen? ⟨B, j, none⟩ = false := by simp [World.frozen?, h.h]
end Go.Proofs.YteckefolakjafaaGreatDoor

set_option linter.unusedVariables false
namespace Go.Proofs.YteckefolakjafaaGreatDoor.S3
open Go Go.Lib

def Dgs (l : Str) : Prop := ∀ c ∈ l, dg c = true
def numN (l : Str) : Nat := l.foldl (fun n c => 10 * n + (c.toNat - 48)) 0
theorem dg_val {c : UInt8} (h : dg c = true) : 48 ≤ c.toNat ∧ c.toNat ≤ 57 := by simpa [dg] using h
theorem decFrom_fold : ∀ (l : Str) (acc : Nat), Dgs l → Lib.decFrom acc l = some (l.foldl (fun n c => 10 * n + (c.toNat - 48)) acc)
  | [], acc, _ => rfl
  | c :: r, acc, h => by
    have hc := dg_val (h c (by simp))
    unfold Lib.decFrom Lib.digitVal
    rw [if_pos hc]
    simp only
    rw [decFrom_fold r _ (fun x hx => h x (List.mem_cons_of_mem _ hx)), List.foldl_cons, Nat.mul_comm acc 10]
theorem atoi_num (l : Str) (h0 : l ≠ []) (h : Dgs l) : Lib.atoi l = some (numN l : Int) := by
  cases l with
  | nil => exact absurd rfl h0
  | cons c r =>
    have hc := dg_val (h c (by simp))
    have e1 : (c == 45) = false := by
      rw [beq_eq_false_iff_ne]
      rintro rfl
      simp at hc
    have e2 : (c == 43) = false := by
      rw [beq_eq_false_iff_ne]
      rintro rfl
      simp at hc
    unfold Lib.atoi
    dsimp only
    rw [e1, e2, if_neg (by simp), if_neg (by simp)]
    unfold Lib.decNat
    rw [if_neg (by simp), decFrom_fold _ 0 h]
    rfl
theorem numN_snoc (l : Str) (c : UInt8) : numN (l ++ [c]) = 10 * numN l + (c.toNat - 48) := by simp [numN]
theorem fold_le : ∀ (l : Str) (acc : Nat), Dgs l → l.foldl (fun n c => 10 * n + (c.toNat - 48)) acc < (acc + 1) * 10 ^ l.length
  | [], acc, _ => by simp
  | c :: r, acc, h => by
    have hc := dg_val (h c (by simp))
    have ih := fold_le r (10 * acc + (c.toNat - 48)) (fun x hx => h x (List.mem_cons_of_mem _ hx))
    rw [List.foldl_cons, List.length_cons, Nat.pow_succ]
    refine Nat.lt_of_lt_of_le ih ?_
    rw [Nat.mul_comm (10 ^ r.length) 10, ← Nat.mul_assoc]
    exact Nat.mul_le_mul_right _ (by omega)
theorem numN_lt (l : Str) (h : Dgs l) : numN l < 10 ^ l.length := by
  have := fold_le l 0 h
  simpa [numN] using this
theorem numN_small (l : Str) (h : Dgs l) (hl : l.length ≤ 16) : numN l < 10000000000000000 := by
  have h1 := numN_lt l h
  have h2 : 10 ^ l.length ≤ 10 ^ 16 := Nat.pow_le_pow_right (by omega) hl
  have h3 : 10 ^ 16 = 10000000000000000 := by decide
  omega
theorem dec_small {u : Nat} (h : u < 10) : decDigits u = [UInt8.ofNat (48 + u)] := Lib.decDigits_one h
theorem dec_step (m d : Nat) (hm : 1 ≤ m) (hd : d < 10) : decDigits (10 * m + d) = decDigits m ++ [UInt8.ofNat (48 + d)] := by
  conv => lhs; rw [decDigits]
  rw [dif_neg (by omega), show (10 * m + d) / 10 = m by omega, show (10 * m + d) % 10 = d by omega]
theorem ofNat_val {d : Nat} (h : d < 10) : (UInt8.ofNat (48 + d)).toNat = 48 + d := by
  simp
  omega
theorem dg_ofNat {d : Nat} (h : d < 10) : dg (UInt8.ofNat (48 + d)) = true := by
  unfold dg
  rw [ofNat_val h]
  simp
  omega
theorem dec_facts : ∀ (n u : Nat), u ≤ n → Dgs (decDigits u) ∧ numN (decDigits u) = u ∧ 1 ≤ (decDigits u).length
  | 0, u, h => by
    obtain rfl : u = 0 := by omega
    rw [dec_small (by omega)]
    refine ⟨fun c hc => ?_, rfl, by simp⟩
    obtain rfl : c = UInt8.ofNat (48 + 0) := by simpa using hc
    decide
  | n + 1, u, h => by
    by_cases hu : u < 10
    · rw [dec_small hu]
      refine ⟨fun c hc => ?_, ?_, by simp⟩
      · obtain rfl : c = UInt8.ofNat (48 + u) := by simpa using hc
        exact dg_ofNat hu
      · show 10 * 0 + ((UInt8.ofNat (48 + u)).toNat - 48) = u
        rw [ofNat_val hu]
        omega
    · obtain ⟨m, d, hm, hd, rfl⟩ : ∃ m d, 1 ≤ m ∧ d < 10 ∧ u = 10 * m + d := ⟨u / 10, u % 10, by omega, by omega, by omega⟩
      obtain ⟨h1, h2, h3⟩ := dec_facts n m (by omega)
      rw [dec_step m d hm hd]
      refine ⟨fun c hc => ?_, ?_, by simp⟩
      · rcases List.mem_append.1 hc with hc | hc
        · exact h1 c hc
        · obtain rfl : c = UInt8.ofNat (48 + d) := by simpa using hc
          exact dg_ofNat hd
      · rw [numN_snoc, h2, ofNat_val hd]
        omega
theorem dec_dgs (u : Nat) : Dgs (decDigits u) := (dec_facts u u (Nat.le_refl _)).1
theorem dec_num (u : Nat) : numN (decDigits u) = u := (dec_facts u u (Nat.le_refl _)).2.1
theorem dec_pos (u : Nat) : 1 ≤ (decDigits u).length := (dec_facts u u (Nat.le_refl _)).2.2
theorem dec_len (u k : Nat) (h : u < 10 ^ k) (hk : 1 ≤ k) : (decDigits u).length ≤ k := by
  induction k generalizing u with
  | zero => omega
  | succ k ih =>
    by_cases hu : u < 10
    · rw [dec_small hu]
      simp
    · obtain ⟨m, d, hm, hd, rfl⟩ : ∃ m d, 1 ≤ m ∧ d < 10 ∧ u = 10 * m + d := ⟨u / 10, u % 10, by omega, by omega, by omega⟩
      rw [dec_step m d hm hd, List.length_append]
      rw [Nat.pow_succ] at h
      have hk' : 1 ≤ k := by
        rcases Nat.eq_zero_or_pos k with h0 | h0
        · subst h0; simp at h; omega
        · exact h0
      have := ih m (by omega) hk'
      simp
      omega
def zerosS (k : Nat) : Str := List.replicate k 48
/-- A number in decimal with a width. -/
def wrS (n w : Nat) : Str := zerosS (w - (decDigits n).length) ++ decDigits n
theorem num_zeros : ∀ (k : Nat) (l : Str), numN (zerosS k ++ l) = numN l
  | 0, l => rfl
  | k + 1, l => by
    have ih := num_zeros k l
    unfold numN zerosS at ih ⊢
    rw [List.replicate_succ]
    simpa using ih
theorem wr_num (n w : Nat) : numN (wrS n w) = n := by unfold wrS; rw [num_zeros, dec_num]
theorem wr_dgs (n w : Nat) : Dgs (wrS n w) := fun c hc => by
  rcases List.mem_append.1 hc with hc | hc
  · obtain rfl : c = 48 := List.eq_of_mem_replicate hc
    decide
  · exact dec_dgs n c hc
theorem wr_len (n w : Nat) : (wrS n w).length = max w (decDigits n).length := by
  unfold wrS zerosS
  rw [List.length_append, List.length_replicate]
  omega
theorem wr_ne (n w : Nat) : wrS n w ≠ [] := fun e => by
  have h1 := wr_len n w
  have h2 := dec_pos n
  rw [e] at h1
  simp at h1
  omega
/-- Digits are their number, written with as many digits. -/
theorem wr_self : ∀ (k : Nat) (u : Str), u.length = k + 1 → Dgs u → wrS (numN u) u.length = u
  | 0, u, hl, h => by
    match u, hl with
    | [c], _ =>
      have hc := dg_val (h c (by simp))
      have hn : numN [c] = c.toNat - 48 := by simp [numN]
      have hd : decDigits (c.toNat - 48) = [c] := by
        rw [dec_small (by omega), show 48 + (c.toNat - 48) = c.toNat by omega]
        simp
      unfold wrS
      rw [hn, hd]
      rfl
  | k + 1, u, hl, h => by
    obtain ⟨a, c, rfl⟩ : ∃ a c, u = a ++ [c] := by
      rcases List.eq_nil_or_concat u with h0 | ⟨a, c, h0⟩
      · rw [h0] at hl; simp at hl
      · exact ⟨a, c, by simpa using h0⟩
    have ha : a.length = k + 1 := by simpa using hl
    have hda : Dgs a := fun x hx => h x (List.mem_append_left _ hx)
    have hc := dg_val (h c (by simp))
    have ih := wr_self k a ha hda
    have hcc : UInt8.ofNat (48 + (c.toNat - 48)) = c := by rw [show 48 + (c.toNat - 48) = c.toNat by omega]; simp
    rw [numN_snoc]
    generalize numN a = m at ih ⊢
    by_cases hm : m = 0
    · subst hm
      have h0 : decDigits 0 = [48] := by rw [dec_small (by omega)]; rfl
      have hz : a = zerosS a.length := by
        conv => lhs; rw [← ih]
        unfold wrS
        rw [h0]
        unfold zerosS
        rw [ha]
        show List.replicate (k + 1 - 1) 48 ++ [48] = List.replicate (k + 1) 48
        rw [List.replicate_succ', show k + 1 - 1 = k by omega]
      unfold wrS
      rw [show 10 * 0 + (c.toNat - 48) = c.toNat - 48 by omega, dec_small (by omega), hcc]
      conv => rhs; rw [hz]
      rw [List.length_append]
      congr 1
    · unfold wrS at ih ⊢
      rw [dec_step m _ (by omega) (by omega), hcc, List.length_append, List.length_append, List.length_singleton,
        show a.length + 1 - ((decDigits m).length + 1) = a.length - (decDigits m).length by omega, ← List.append_assoc, ih]

/-! ### the last number of a code -/
def preS (s : Str) : Str := (s.reverse.dropWhile dg).reverse
def lastS (s : Str) : Str := s.drop (preS s).length
theorem digits_dg (c : UInt8) : ([48, 49, 50, 51, 52, 53, 54, 55, 56, 57] : Str).contains c = dg c := by
  unfold dg
  rw [Bool.eq_iff_iff]
  simp only [List.contains_iff_mem, List.mem_cons, List.not_mem_nil, or_false, Bool.and_eq_true, decide_eq_true_eq]
  constructor
  · rintro (rfl | rfl | rfl | rfl | rfl | rfl | rfl | rfl | rfl | rfl) <;> decide
  · intro h
    have : c = UInt8.ofNat c.toNat := by simp
    rcases (show c.toNat = 48 ∨ c.toNat = 49 ∨ c.toNat = 50 ∨ c.toNat = 51 ∨ c.toNat = 52 ∨ c.toNat = 53 ∨ c.toNat = 54 ∨ c.toNat = 55 ∨ c.toNat = 56 ∨ c.toNat = 57 by omega) with h | h | h | h | h | h | h | h | h | h <;> rw [h] at this <;> simp [this]
theorem trim_pre (s : Str) : Lib.trimRightS s [48, 49, 50, 51, 52, 53, 54, 55, 56, 57] = preS s := by
  unfold Lib.trimRightS preS
  congr 2
  funext c
  exact digits_dg c
theorem pre_split (s : Str) : preS s ++ lastS s = s := by
  have h : preS s <+: s := by
    unfold preS
    rw [← List.reverse_suffix, List.reverse_reverse]
    exact List.dropWhile_suffix _
  unfold lastS
  obtain ⟨t, ht⟩ := h
  conv => lhs; rw [← ht]
  rw [show preS (preS s ++ t) = preS s by rw [ht]]
  simp
  exact ht
theorem dropWhile_head {p : UInt8 → Bool} : ∀ (l : Str) (c : UInt8) (r : Str), l.dropWhile p = c :: r → p c = false
  | [], c, r, h => by simp at h
  | x :: l, c, r, h => by
    by_cases hx : p x = true
    · rw [List.dropWhile_cons_of_pos hx] at h
      exact dropWhile_head l c r h
    · rw [List.dropWhile_cons_of_neg hx] at h
      injection h with h _
      subst h
      simpa using hx
theorem pre_end (s p : Str) (c : UInt8) (h : preS s = p ++ [c]) : dg c = false := by
  unfold preS at h
  have := congrArg List.reverse h
  rw [List.reverse_reverse, List.reverse_append] at this
  exact dropWhile_head _ c _ this
theorem pre_app (p v : Str) (hv : Dgs v) (hp : ∀ q c, p = q ++ [c] → dg c = false) : preS (p ++ v) = p := by
  unfold preS
  rw [List.reverse_append, List.dropWhile_append_of_pos (fun x hx => hv x (by simpa using hx))]
  cases hr : p.reverse with
  | nil =>
    have : p = [] := by simpa using hr
    rw [this]
    rfl
  | cons c r =>
    have hpc : p = r.reverse ++ [c] := by
      have := congrArg List.reverse hr
      simpa using this
    rw [List.dropWhile_cons_of_neg (by rw [hp _ _ hpc]; simp)]
    rw [hpc]
    simp
theorem last_app (p v : Str) (hv : Dgs v) (hp : ∀ q c, p = q ++ [c] → dg c = false) : lastS (p ++ v) = v := by
  unfold lastS
  rw [pre_app p v hv hp]
  simp
theorem takeWhile_all {p : UInt8 → Bool} : ∀ (l : Str), ∀ x ∈ l.takeWhile p, p x = true
  | [], x, h => by simp at h
  | y :: l, x, h => by
    by_cases hy : p y = true
    · rw [List.takeWhile_cons_of_pos hy] at h
      rcases List.mem_cons.1 h with h | h
      · rw [h]; exact hy
      · exact takeWhile_all l x h
    · rw [List.takeWhile_cons_of_neg hy] at h
      simp at h
theorem last_dgs (s : Str) : Dgs (lastS s) := by
  have h1 : s = preS s ++ (s.reverse.takeWhile dg).reverse := by
    unfold preS
    rw [← List.reverse_append, List.takeWhile_append_dropWhile]
    simp
  have h2 : lastS s = (s.reverse.takeWhile dg).reverse := by
    have := pre_split s
    conv at this => rhs; rw [h1]
    exact List.append_cancel_left this
  rw [h2]
  intro c hc
  exact takeWhile_all _ c (by simpa using hc)
end Go.Proofs.YteckefolakjafaaGreatDoor.S3

set_option linter.unusedVariables false
namespace Go.Proofs.YteckefolakjafaaGreatDoor.S3
open Go Go.Proofs Go.RowKit Go.Lib

def orI (a b : Int) : Int := if a = 0 then b else a
theorem compareInt_eq (x y : Int) : Lib.compareInt x y = cmpI x y := rfl
theorem cmpE_nums' (a b : Str) (ha : numS a = true) (hb : numS b = true) : cmpE a b = orI (cmpI ((bareS a).length : Int) ((bareS b).length : Int)) (compareBytes (bareS a) (bareS b)) := cmpE_nums a b ha hb

theorem numS_eq (a : ByteArray) (h : 0 < a.size) : numS (lst a) = dg (a[0]'h) := by
  have e : (lst a)[0]? = some (a[0]'h) := by
    have h' := h
    rw [Lib.size_eq] at h'
    rw [List.getElem?_eq_getElem h']
    rfl
  cases hl : lst a with
  | nil => rw [hl] at e; simp at e
  | cons c r =>
    rw [hl] at e
    have : c = a[0]'h := by simpa using e
    rw [← this]
    rfl
end Go.Proofs.YteckefolakjafaaGreatDoor.S3

