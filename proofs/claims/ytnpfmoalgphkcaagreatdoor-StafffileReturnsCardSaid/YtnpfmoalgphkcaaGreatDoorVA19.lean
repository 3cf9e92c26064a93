/-
  Lecturers as data, and in memory: slices of structs that came in, or that the call made. No program beyond the types' facts.
  Lecturers as data: what is asked of one and of a list; their records. No program.
  How two times of the week stand to each other, and when a slot begins: Between, Overlap, Before, Clock of timegrid. Conditions: the starts are numbers of 64 bits.
  DERIVED: THE SHELF's CONTRACTS AT THIS DUMP, IN PLAIN WORDS (tools/lay-plain.mjs out of 'TryzShelfS.lean', which tools/lay-shelf.mjs wrote): THE SAME DECLARATIONS UNDER THE SAME NAMES: 'import', 'namespace', 'open', 'def', 'theorem' AND NOTHING ELSE: no command of the shelf's: FOR A HAND-IN. Each laying: the table of numbers ('.._ren') and one theorem, a field a fact of the dump's own or the kernel's comparison; each contract: ONE APPLICATION.
-/
import Derived.Test.YtnpfmoalgphkcaaGreatDoorVA14
import Derived.Test.YtnpfmoalgphkcaaGreatDoorVA18
import Derived.Test.YtnpfmoalgphkcaaGreatDoorVA17
import Derived.Test.YtnpfmoalgphkcaaGreatDoorVA08
import Derived.Test.YtnpfmoalgphkcaaGreatDoorProg
import Derived.Shelf.SlGeneric
import Derived.Shelf.SlicesQ.IndexFunc
set_option linter.unusedVariables false
namespace Go.Proofs.YtnpfmoalgphkcaaGreatDoor
open Go Go.Proofs Go.RowKit Go.Lib

abbrev LectD := Str × List TimeD
abbrev LectA := Option Addr × Nat
def lectVs (x : LectD) (q : LectA) : List Value := [.string (ba x.1), .slice q.1 x.2.length q.2]
def lectV (x : LectD) (q : LectA) : Value := .agg #[.string (ba x.1), .slice q.1 x.2.length q.2]
/-- What a lecturer's slice leads to. -/
structure LectIn (w : World) (P : Nat → Prop) (x : LectD) (q : LectA) : Prop where
  t : TimesIn w P q.1 x.2
  t1 : x.2.length ≤ q.2
  t2 : q.2 ≤ 9223372036854775807
theorem LectIn.kept {w w' : World} {P : Nat → Prop} {x : LectD} {q : LectA} (h : LectIn w P x q) (hk : ∀ b, P b → w'.heap[b]? = w.heap[b]?) : LectIn w' P x q := ⟨h.t.kept hk, h.t1, h.t2⟩
theorem LectIn.mono {w : World} {P P' : Nat → Prop} {x : LectD} {q : LectA} (h : LectIn w P x q) (hP : ∀ b, P b → P' b) : LectIn w P' x q := ⟨h.t.mono hP, h.t1, h.t2⟩
theorem LectIn.below {w w' : World} {B : Nat} {x : LectD} {q : LectA} (h : LectIn w (fun b => b < B) x q) (hb : Below B w w') : LectIn w' (fun b => b < B) x q := h.kept fun b hB => hb.block b hB
/-- The slice at A holds the lecturers l, in blocks with P. -/
def LectsIn (w : World) (P : Nat → Prop) (A : Option Addr) (l : List LectD) : Prop :=
  l = [] ∨ ∃ b off, A = some ⟨b, off, none⟩ ∧ P b ∧ ∀ (j : Nat) (x : LectD), l[j]? = some x → ∃ q, LectIn w P x q ∧ ∀ (i : Nat) (v : Value), (lectVs x q)[i]? = some v → w.cell? ⟨b, off + j * 2 + i, none⟩ = some v
theorem LectsIn.kept {w w' : World} {P : Nat → Prop} {A : Option Addr} {l : List LectD} (h : LectsIn w P A l) (hk : ∀ b, P b → w'.heap[b]? = w.heap[b]?) : LectsIn w' P A l := by
  rcases h with h | ⟨b, off, hA, hP, hc⟩
  · exact .inl h
  · refine .inr ⟨b, off, hA, hP, fun j r hj => ?_⟩
    obtain ⟨q, h1, h2⟩ := hc j r hj
    exact ⟨q, h1.kept hk, fun i v hv => (World.cell?_of_block (w := w) (hk b hP)).trans (h2 i v hv)⟩
theorem LectsIn.mono {w : World} {P P' : Nat → Prop} {A : Option Addr} {l : List LectD} (h : LectsIn w P A l) (hP : ∀ b, P b → P' b) : LectsIn w P' A l := by
  rcases h with h | ⟨b, off, hA, hb, hc⟩
  · exact .inl h
  · refine .inr ⟨b, off, hA, hP b hb, fun j r hj => ?_⟩
    obtain ⟨q, h1, h2⟩ := hc j r hj
    exact ⟨q, h1.mono hP, h2⟩
theorem LectsIn.below {w w' : World} {B : Nat} {A : Option Addr} {l : List LectD} (h : LectsIn w (fun b => b < B) A l) (hb : Below B w w') : LectsIn w' (fun b => b < B) A l := h.kept fun b hB => hb.block b hB
theorem LectsIn.at_ {w : World} {P : Nat → Prop} {A : Option Addr} {l : List LectD} (h : LectsIn w P A l) {k : Nat} (hk : k < l.length) :
    ∃ b off q, A = some ⟨b, off, none⟩ ∧ P b ∧ LectIn w P l[k] q ∧ w.cell? ⟨b, off + k * 2, none⟩ = some (.string (ba l[k].1)) ∧ w.cell? ⟨b, off + k * 2 + 1, none⟩ = some (.slice q.1 l[k].2.length q.2) := by
  rcases h with h | ⟨b, off, hA, hP, hc⟩
  · subst h; simp at hk
  · obtain ⟨q, h1, h2⟩ := hc k _ (List.getElem?_eq_getElem hk)
    exact ⟨b, off, q, hA, hP, h1, h2 0 _ rfl, h2 1 _ rfl⟩

/-- A block of two cells: a lecturer. -/
structure Box2 (w : World) (B : Nat) (v0 v1 : Value) : Prop where
  h : w.heap[B]? = some (.cells #[v0, v1] 34 (0, 0))
theorem Box2.new (w : World) (v0 v1 : Value) : Box2 (w.alloc (.cells #[v0, v1] 34)) w.heap.size v0 v1 := ⟨heap_alloc_new w _⟩
theorem Box2.lt {w : World} {B : Nat} {v0 v1 : Value} (h : Box2 w B v0 v1) : B < w.heap.size := (Array.getElem?_eq_some_iff.1 h.h).1
theorem Box2.kept {w w' : World} {B : Nat} {v0 v1 : Value} (h : Box2 w B v0 v1) (hk : w'.heap[B]? = w.heap[B]?) : Box2 w' B v0 v1 := ⟨hk.trans h.h⟩
theorem Box2.below {w w' : World} {B C : Nat} {v0 v1 : Value} (h : Box2 w B v0 v1) (hb : Below C w w') (hC : B < C) : Box2 w' B v0 v1 := h.kept (hb.block B hC)
theorem Box2.next {w w' : World} {B : Nat} {v0 v1 : Value} (h : Box2 w B v0 v1) (hb : Below w.heap.size w w') : Box2 w' B v0 v1 := h.below hb h.lt
theorem Box2.cells {w : World} {B : Nat} {v0 v1 : Value} (h : Box2 w B v0 v1) : w.cell? ⟨B, 0, none⟩ = some v0 ∧ w.cell? ⟨B, 1, none⟩ = some v1 := by
  refine ⟨?_, ?_⟩ <;> (rw [Lib.cell_of_heap h.h]; rfl)
theorem Box2.free {w : World} {B : Nat} {v0 v1 : Value} (h : Box2 w B v0 v1) (j : Nat) : w.frozen? ⟨B, j, none⟩ = false := by simp [World.frozen?, h.h]
/-- A block of one cell, of whatever type. -/
structure Box1 (w : World) (B : Nat) (T : TypeId) (v : Value) : Prop where
  h : w.heap[B]? = some (.cells #[v] T (0, 0))
theorem Box1.new (w : World) (T : TypeId) (v : Value) : Box1 (w.alloc (.cells #[v] T)) w.heap.size T v := ⟨heap_alloc_new w _⟩
theorem Box1.lt {w : World} {B : Nat} {T : TypeId} {v : Value} (h : Box1 w B T v) : B < w.heap.size := (Array.getElem?_eq_some_iff.1 h.h).1
theorem Box1.kept {w w' : World} {B : Nat} {T : TypeId} {v : Value} (h : Box1 w B T v) (hk : w'.heap[B]? = w.heap[B]?) : Box1 w' B T v := ⟨hk.trans h.h⟩
theorem Box1.below {w w' : World} {B C : Nat} {T : TypeId} {v : Value} (h : Box1 w B T v) (hb : Below C w w') (hC : B < C) : Box1 w' B T v := h.kept (hb.block B hC)
theorem Box1.next {w w' : World} {B : Nat} {T : TypeId} {v : Value} (h : Box1 w B T v) (hb : Below w.heap.size w w') : Box1 w' B T v := h.below hb h.lt
theorem Box1.cell {w : World} {B : Nat} {T : TypeId} {v : Value} (h : Box1 w B T v) : w.cell? ⟨B, 0, none⟩ = some v := by
  rw [Lib.cell_of_heap h.h]; rfl

theorem infoLect : (Tryz.prog.info? 34).map (fun i => (i.zero, i.size, i.bytes)) = some (some (.agg #[.string ⟨#[]⟩, .slice none 0 0]), 2, 40) := by kernel_rfl
/-- Lecturers that the call owns, with what their slices lead to. -/
def lectVals (l : List (LectD × LectA)) : List Value := l.flatMap fun p => lectVs p.1 p.2
theorem lectVals_app (a b : List (LectD × LectA)) : lectVals (a ++ b) = lectVals a ++ lectVals b := by simp [lectVals]
theorem lectVals_get : ∀ (l : List (LectD × LectA)) (j : Nat) (t : LectD × LectA), l[j]? = some t → ∀ (i : Nat) (v : Value), (lectVs t.1 t.2)[i]? = some v → (lectVals l)[j * 2 + i]? = some v
  | [], j, t, h, _, _, _ => by simp at h
  | a :: r, 0, t, h, i, v, hv => by
    simp at h
    subst h
    have hi : i < 2 := (List.getElem?_eq_some_iff.1 hv).1
    unfold lectVals
    rw [List.flatMap_cons, List.getElem?_append_left (by show _ < 2; omega)]
    simpa using hv
  | a :: r, j + 1, t, h, i, v, hv => by
    have := lectVals_get r j t (by simpa using h) i v hv
    unfold lectVals at this ⊢
    rw [List.flatMap_cons, List.getElem?_append_right (by show 2 ≤ _; omega)]
    show (List.flatMap _ r)[(j + 1) * 2 + i - 2]? = _
    rw [show (j + 1) * 2 + i - 2 = j * 2 + i by omega]
    exact this
/-- The lecturers l in a row of the call's own; what they lead to lies in blocks with P. -/
def LectRow (w : World) (B : Nat) (P : Nat → Prop) (v : Value) (l : List LectD) : Prop := ∃ L : List (LectD × LectA), L.map (·.1) = l ∧ w.ownsRow B 34 2 v l.length (lectVals L) ∧ ∀ p ∈ L, LectIn w P p.1 p.2
theorem LectRow.lectsIn {w : World} {B : Nat} {P : Nat → Prop} {v : Value} {l : List LectD} (h : LectRow w B P v l) : ∃ A c, v = .slice A l.length c ∧ l.length ≤ c ∧ c ≤ 9223372036854775807 ∧ LectsIn w (fun b => P b ∨ (B ≤ b ∧ b < w.heap.size)) A l := by
  obtain ⟨L, rfl, h, hL⟩ := h
  have h' := h
  rcases h.2 with ⟨hv, h0⟩ | ⟨g, cap, cur, hv, hB, hg, h1, h2, _⟩
  · have hl : L.map (·.1) = [] := List.eq_nil_of_length_eq_zero h0
    rw [hl]
    exact ⟨none, 0, by rw [hv]; rfl, Nat.le_refl _, by omega, .inl rfl⟩
  · refine ⟨_, cap, hv, h1, by unfold maxLen at h2; omega, .inr ⟨g, 0, rfl, .inr ⟨hB, (Array.getElem?_eq_some_iff.1 hg).1⟩, fun j r hj => ?_⟩⟩
    rw [List.getElem?_map] at hj
    obtain ⟨p, hp, rfl⟩ := Option.map_eq_some_iff.1 hj
    refine ⟨p.2, (hL p (List.mem_of_getElem? hp)).mono (fun b hb => .inl hb), fun i v' hv' => ?_⟩
    have := World.ownsRow.cells h' (g := g) (by rw [hv]; rfl) (j * 2 + i) v' (lectVals_get L j p hp i v' hv')
    rw [Addr.add_lit] at this
    rw [← Nat.add_assoc] at this
    exact this
end Go.Proofs.YtnpfmoalgphkcaaGreatDoor

set_option linter.unusedVariables false
namespace Go.Proofs.YtnpfmoalgphkcaaGreatDoor
open Go Go.Proofs Go.RowKit Go.Lib

/-- The first error of a lecturer alone. -/
def lectM (d s b m n : Int) (x : LectD) : Int :=
  if S3.validC x.1 = false then 10 else if 24 < x.2.length then 2 else if x.2.any (unfitB d s b m n) = true then 14 else 0
def goL (d s b m n : Int) : List Str → List LectD → Int
  | _, [] => 0
  | seen, r :: rs => if lectM d s b m n r ≠ 0 then lectM d s b m n r else if r.1 ∈ seen then 11 else goL d s b m n (seen ++ [r.1]) rs
/-- The first error of lecturers. -/
def validL (d s b m n : Int) (l : List LectD) : Int := if frameB d s b m n = false then 1 else if 32 < l.length then 2 else goL d s b m n [] l
def codesL (l : List LectD) : List Str := l.map (·.1)
theorem goL_step (d s b m n : Int) (l : List LectD) (i : Nat) (h : i < l.length) :
    goL d s b m n (codesL (l.take i)) (l.drop i) = if lectM d s b m n l[i] ≠ 0 then lectM d s b m n l[i] else if l[i].1 ∈ codesL (l.take i) then 11 else goL d s b m n (codesL (l.take (i + 1))) (l.drop (i + 1)) := by
  have e : codesL (l.take i ++ [l[i]]) = codesL (l.take i) ++ [l[i].1] := by unfold codesL; rw [List.map_append]; rfl
  rw [List.drop_eq_getElem_cons h, goL, List.take_succ_eq_append_getElem h, e]
def rowL (d s b m n : Int) (x : LectD) : List Str := [x.1, timesS d s b m n x.2]
def writeL (d s b m n : Int) (l : List LectD) : List (List Str) × Int := if validL d s b m n l ≠ 0 then ([], validL d s b m n l) else (l.map (rowL d s b m n), 0)
/-- Whether no time of the list overlaps t. -/
def clearM (l : List TimeD) (t : TimeD) : Bool := !(l.any fun x => overB x.1 x.2.1 x.2.2.1 x.2.2.2 t.1 t.2.1 t.2.2.1 t.2.2.2)
theorem goL_ok {d s b m n : Int} : ∀ (l : List LectD) (seen : List Str), goL d s b m n seen l = 0 → ∀ r ∈ l, lectM d s b m n r = 0
  | [], _, _, r, hr => by simp at hr
  | x :: xs, seen, h, r, hr => by
    unfold goL at h
    by_cases h1 : lectM d s b m n x = 0
    · rw [if_neg (by simpa using h1)] at h
      split at h
      · simp at h
      · rcases List.mem_cons.1 hr with rfl | hr
        · exact h1
        · exact goL_ok xs _ h r hr
    · rw [if_pos h1] at h
      exact absurd h h1
theorem validL_ok {d s b m n : Int} {l : List LectD} (h : validL d s b m n l = 0) : l.length ≤ 32 ∧ ∀ r ∈ l, lectM d s b m n r = 0 := by
  unfold validL at h
  split at h
  · simp at h
  · split at h
    · simp at h
    · exact ⟨by omega, goL_ok l [] h⟩
theorem lectM_len {d s b m n : Int} {x : LectD} (h : lectM d s b m n x = 0) : x.2.length ≤ 24 := by
  unfold lectM at h
  split at h
  · simp at h
  · split at h
    · simp at h
    · omega
theorem lectM_code {d s b m n : Int} {x : LectD} (h : lectM d s b m n x = 0) : S3.validC x.1 = true := by
  cases hv : S3.validC x.1 with
  | true => rfl
  | false =>
    unfold lectM at h
    rw [if_pos hv] at h
    simp at h
end Go.Proofs.YtnpfmoalgphkcaaGreatDoor

set_option linter.unusedVariables false
namespace Go.Proofs.YtnpfmoalgphkcaaGreatDoor
open Go Go.Proofs Go.RowKit Go.Lib

theorem meet_no {k y t l k' y' t' l' : Int} (h : ¬ (soundB k y t l = true ∧ soundB k' y' t' l' = true ∧ bits .and .i64 k k' ≠ 0 ∧ y = y')) : betM k y t l k' y' t' l' = (0, false) := by
  unfold betM
  rw [show meetB k y t l k' y' t' l' = false from decide_eq_false h, if_neg (by simp)]
theorem meet_yes {k y t l k' y' t' l' : Int} (h : soundB k y t l = true ∧ soundB k' y' t' l' = true ∧ bits .and .i64 k k' ≠ 0 ∧ y = y') : betM k y t l k' y' t' l' = (gapI t l t' l', true) := by
  unfold betM
  rw [show meetB k y t l k' y' t' l' = true from decide_eq_true h, if_pos rfl]
set_option maxHeartbeats 8000000 in
set_option maxRecDepth 100000 in
theorem between_any (k y t l k' y' t' l' : Int) (ht : t ≤ 9223372036854775807) (ht' : t' ≤ 9223372036854775807) (w : World) :
    Calls Tryz.prog 81 #[.agg #[.int .i64 k, .int .i64 y, .int .i64 t, .int .i64 l], .agg #[.int .i64 k', .int .i64 y', .int .i64 t', .int .i64 l']] w (Says (.tuple #[.int .i64 (betM k y t l k' y' t' l').1, .bool (betM k y t l k' y' t' l').2]) w) := by
  have cS := fun w => sound_any k y t l ht w
  have cS2 := fun w => sound_any k' y' t' l' ht' w
  unfold Says at cS cS2 ⊢
  cases hs : soundB k y t l with
  | false =>
    rw [meet_no (fun h => by rw [hs] at h; exact absurd h.1 (by simp))]
    rw [hs] at cS
    clear hs cS2
    have hk := K2.first w k y t l k' y' t' l' 26 26
    have HK := hid hk
    clear hk
    go_enter Tryz.func81, Tryz.ntmps81
    go_wp2_with fail
    refine (cS _).mono ?_
    rintro e w1 ⟨rfl, hb⟩
    have hk := HK.out.next hb
    clear hb HK
    obtain ⟨⟨x0, x1, x2, x3, _⟩, ⟨y0, y1, y2, y3, _⟩, _⟩ := id hk
    go_wp2
    go_ret2
    exact ⟨rfl, hk.b⟩
  | true =>
    rw [hs] at cS
    cases hs2 : soundB k' y' t' l' with
    | false =>
      rw [meet_no (fun h => by rw [hs2] at h; exact absurd h.2.1 (by simp))]
      rw [hs2] at cS2
      clear hs hs2
      have hk := K2.first w k y t l k' y' t' l' 26 26
      have HK := hid hk
      clear hk
      go_enter Tryz.func81, Tryz.ntmps81
      go_wp2_with fail
      refine (cS _).mono ?_
      rintro e w1 ⟨rfl, hb⟩
      have hk := HK.out.next hb
      clear hb HK
      obtain ⟨⟨x0, x1, x2, x3, _⟩, ⟨y0, y1, y2, y3, _⟩, _⟩ := id hk
      go_wp2_with fail
      refine (cS2 _).mono ?_
      rintro e w1 ⟨rfl, hb⟩
      have hk := hk.next hb
      clear hb
      obtain ⟨⟨x0, x1, x2, x3, _⟩, ⟨y0, y1, y2, y3, _⟩, _⟩ := id hk
      go_wp2
      go_ret2
      exact ⟨rfl, hk.b⟩
    | true =>
      rw [hs2] at cS2
      by_cases hw : bits .and .i64 k k' = 0
      · rw [meet_no (fun h => h.2.2.1 hw)]
        clear hs hs2
        have hk := K2.first w k y t l k' y' t' l' 26 26
        have HK := hid hk
        clear hk
        go_enter Tryz.func81, Tryz.ntmps81
        go_wp2_with fail
        refine (cS _).mono ?_
        rintro e w1 ⟨rfl, hb⟩
        have hk := HK.out.next hb
        clear hb HK
        obtain ⟨⟨x0, x1, x2, x3, _⟩, ⟨y0, y1, y2, y3, _⟩, _⟩ := id hk
        go_wp2_with fail
        refine (cS2 _).mono ?_
        rintro e w1 ⟨rfl, hb⟩
        have hk := hk.next hb
        clear hb
        obtain ⟨⟨x0, x1, x2, x3, _⟩, ⟨y0, y1, y2, y3, _⟩, _⟩ := id hk
        go_wp2
        go_ret2
        exact ⟨rfl, hk.b⟩
      · have hw' : (bits .and .i64 k k' == 0) = false := by simpa using hw
        by_cases hy : y = y'
        · rw [meet_yes ⟨hs, hs2, hw, hy⟩]
          have hyd : (y != y') = false := by simpa using hy
          clear hy
          obtain ⟨s1, s2, s3, s4, s5⟩ := sound_of hs
          obtain ⟨r1, r2, r3, r4, r5⟩ := sound_of hs2
          have cE := fun w => endOf_any k y t l s3 (by omega) (by omega) (by omega) w
          have cE2 := fun w => endOf_any k' y' t' l' r3 (by omega) (by omega) (by omega) w
          unfold Says at cE cE2
          clear hs hs2 hw
          have four : ∃ D, max t t' - min (t + l) (t' + l') = D ∧ gapI t l t' l' = max D (-1) ∧ IntKind.i64.wrap D = D := by
            refine ⟨_, rfl, rfl, IntWalk.i64_in _ ?_⟩
            omega
          obtain ⟨D, hD, hG, hWD⟩ := four
          rw [hG]
          have hk := K2.first w k y t l k' y' t' l' 26 26
          have HK := hid hk
          clear hk
          go_enter Tryz.func81, Tryz.ntmps81
          go_wp2_with fail
          refine (cS _).mono ?_
          rintro e w1 ⟨rfl, hb⟩
          have hk := HK.out.next hb
          clear hb HK
          obtain ⟨⟨x0, x1, x2, x3, _⟩, ⟨y0, y1, y2, y3, _⟩, _⟩ := id hk
          go_wp2_with fail
          refine (cS2 _).mono ?_
          rintro e w1 ⟨rfl, hb⟩
          have hk := hk.next hb
          clear hb
          obtain ⟨⟨x0, x1, x2, x3, _⟩, ⟨y0, y1, y2, y3, _⟩, _⟩ := id hk
          go_wp2_with fail
          clear x0 x1 x2 x3 y0 y1 y2 y3
          refine wp_region_held_drew (S := K2 w k y t l k' y' t' l') (by kernel_rfl) hk.drew (fun hHeld => ?_)
          first
            | (refine wpAnyH_take (i := 0) (oi := _) (v := undef) rfl (by kernel_rfl) (by kernel_rfl) (by kernel_rfl) (fun _ _ _ h => h) (Or.inr ⟨by rfl, rfl⟩) (by assumption) ?_)
            | (refine wpAnyH_take (i := 0) (oi := _) (v := ?_) rfl (by kernel_rfl) (by kernel_rfl) (by kernel_rfl) (fun _ _ _ h => h) (Or.inl ⟨by rfl, ?_⟩) (by assumption) ?_; rotate_left; (intro wS hSw; obtain ⟨⟨x0, x1, x2, x3, _⟩, ⟨y0, y1, y2, y3, _⟩, _⟩ := hSw; (try simp only [List.getElem_toArray, List.getElem_cons_zero]); go_simp; (try with_reducible rfl)))
          try simp only [List.getElem_toArray, List.getElem_cons_zero, Act.put, List.setIfInBounds_toArray, List.set_cons_zero, List.set_cons_succ]
          first
            | (refine wpAnyH_take (i := 1) (oi := _) (v := undef) rfl (by kernel_rfl) (by kernel_rfl) (by kernel_rfl) (fun _ _ _ h => h) (Or.inr ⟨by rfl, rfl⟩) (by assumption) ?_)
            | (refine wpAnyH_take (i := 1) (oi := _) (v := ?_) rfl (by kernel_rfl) (by kernel_rfl) (by kernel_rfl) (fun _ _ _ h => h) (Or.inl ⟨by rfl, ?_⟩) (by assumption) ?_; rotate_left; (intro wS hSw; obtain ⟨⟨x0, x1, x2, x3, _⟩, ⟨y0, y1, y2, y3, _⟩, _⟩ := hSw; (try simp only [List.getElem_toArray, List.getElem_cons_succ, List.getElem_cons_zero]); go_simp; (try with_reducible rfl)))
          try simp only [List.getElem_toArray, List.getElem_cons_succ, List.getElem_cons_zero, Act.put, List.setIfInBounds_toArray, List.set_cons_zero, List.set_cons_succ]
          first
            | (refine wpAnyH_take (i := 2) (oi := _) (v := undef) rfl (by kernel_rfl) (by kernel_rfl) (by kernel_rfl) (fun _ _ _ h => h) (Or.inr ⟨by rfl, rfl⟩) (by assumption) ?_)
            | (refine wpAnyH_take (i := 2) (oi := _) (v := ?_) rfl (by kernel_rfl) (by kernel_rfl) (by kernel_rfl) (fun _ _ _ h => h) (Or.inl ⟨by rfl, ?_⟩) (by assumption) ?_; rotate_left; (intro wS hSw; obtain ⟨⟨x0, x1, x2, x3, _⟩, ⟨y0, y1, y2, y3, _⟩, _⟩ := hSw; (try simp only [List.getElem_toArray, List.getElem_cons_succ, List.getElem_cons_zero]); go_simp; (try with_reducible rfl)))
          try simp only [List.getElem_toArray, List.getElem_cons_succ, List.getElem_cons_zero, Act.put, List.setIfInBounds_toArray, List.set_cons_zero, List.set_cons_succ]
          first
            | (refine wpAnyH_take (i := 3) (oi := _) (v := undef) rfl (by kernel_rfl) (by kernel_rfl) (by kernel_rfl) (fun _ _ _ h => h) (Or.inr ⟨by rfl, rfl⟩) (by assumption) ?_)
            | (refine wpAnyH_take (i := 3) (oi := _) (v := ?_) rfl (by kernel_rfl) (by kernel_rfl) (by kernel_rfl) (fun _ _ _ h => h) (Or.inl ⟨by rfl, ?_⟩) (by assumption) ?_; rotate_left; (intro wS hSw; obtain ⟨⟨x0, x1, x2, x3, _⟩, ⟨y0, y1, y2, y3, _⟩, _⟩ := hSw; (try simp only [List.getElem_toArray, List.getElem_cons_succ, List.getElem_cons_zero]); go_simp; (try with_reducible rfl)))
          try simp only [List.getElem_toArray, List.getElem_cons_succ, List.getElem_cons_zero, Act.put, List.setIfInBounds_toArray, List.set_cons_zero, List.set_cons_succ]
          first
            | (refine wpAnyH_take (i := 4) (oi := _) (v := undef) rfl (by kernel_rfl) (by kernel_rfl) (by kernel_rfl) (fun _ _ _ h => h) (Or.inr ⟨by rfl, rfl⟩) (by assumption) ?_)
            | (refine wpAnyH_take (i := 4) (oi := _) (v := ?_) rfl (by kernel_rfl) (by kernel_rfl) (by kernel_rfl) (fun _ _ _ h => h) (Or.inl ⟨by rfl, ?_⟩) (by assumption) ?_; rotate_left; (intro wS hSw; obtain ⟨⟨x0, x1, x2, x3, _⟩, ⟨y0, y1, y2, y3, _⟩, _⟩ := hSw; (try simp only [List.getElem_toArray, List.getElem_cons_succ, List.getElem_cons_zero]); go_simp; (try with_reducible rfl)))
          try simp only [List.getElem_toArray, List.getElem_cons_succ, List.getElem_cons_zero, Act.put, List.setIfInBounds_toArray, List.set_cons_zero, List.set_cons_succ]
          first
            | (refine wpAnyH_take (i := 5) (oi := _) (v := undef) rfl (by kernel_rfl) (by kernel_rfl) (by kernel_rfl) (fun _ _ _ h => h) (Or.inr ⟨by rfl, rfl⟩) (by assumption) ?_)
            | (refine wpAnyH_take (i := 5) (oi := _) (v := ?_) rfl (by kernel_rfl) (by kernel_rfl) (by kernel_rfl) (fun _ _ _ h => h) (Or.inl ⟨by rfl, ?_⟩) (by assumption) ?_; rotate_left; (intro wS hSw; obtain ⟨⟨x0, x1, x2, x3, _⟩, ⟨y0, y1, y2, y3, _⟩, _⟩ := hSw; (try simp only [List.getElem_toArray, List.getElem_cons_succ, List.getElem_cons_zero]); go_simp; (try with_reducible rfl)))
          try simp only [List.getElem_toArray, List.getElem_cons_succ, List.getElem_cons_zero, Act.put, List.setIfInBounds_toArray, List.set_cons_zero, List.set_cons_succ]
          first
            | (refine wpAnyH_take (i := 7) (oi := _) (v := undef) rfl (by kernel_rfl) (by kernel_rfl) (by kernel_rfl) (fun _ _ _ h => h) (Or.inr ⟨by rfl, rfl⟩) (by assumption) ?_)
            | (refine wpAnyH_take (i := 7) (oi := _) (v := ?_) rfl (by kernel_rfl) (by kernel_rfl) (by kernel_rfl) (fun _ _ _ h => h) (Or.inl ⟨by rfl, ?_⟩) (by assumption) ?_; rotate_left; (intro wS hSw; obtain ⟨⟨x0, x1, x2, x3, _⟩, ⟨y0, y1, y2, y3, _⟩, _⟩ := hSw; (try simp only [List.getElem_toArray, List.getElem_cons_succ, List.getElem_cons_zero]); go_simp; (try with_reducible rfl)))
          try simp only [List.getElem_toArray, List.getElem_cons_succ, List.getElem_cons_zero, Act.put, List.setIfInBounds_toArray, List.set_cons_zero, List.set_cons_succ]
          first
            | (refine wpAnyH_take (i := 6) (oi := _) (v := undef) rfl (by kernel_rfl) (by kernel_rfl) (by kernel_rfl) (fun _ _ _ h => h) (Or.inr ⟨by rfl, rfl⟩) (by assumption) ?_)
            | (refine wpAnyH_ready (rs := [6]) (by kernel_rfl) (by simp) ?_; refine AllReadyH.cons (o := _) rfl (fun K hK => ?_) AllReadyH.nil; (try simp only [List.getElem_toArray, List.getElem_cons_succ, List.getElem_cons_zero]); go_simp; go_at_call 95; refine (cE _).mono ?_; rintro e w1 ⟨rfl, hb⟩; have hk2 := hHeld.next hb; clear hb hHeld; have hHeld := hk2; clear hk2; skip; go_wp2_with fail; refine hK.out _ _ hHeld (fun hHeld => ?_); clear hK K)
          try simp only [List.getElem_toArray, List.getElem_cons_succ, List.getElem_cons_zero, Act.put, List.setIfInBounds_toArray, List.set_cons_zero, List.set_cons_succ]
          first
            | (refine wpAnyH_take (i := 8) (oi := _) (v := undef) rfl (by kernel_rfl) (by kernel_rfl) (by kernel_rfl) (fun _ _ _ h => h) (Or.inr ⟨by rfl, rfl⟩) (by assumption) ?_)
            | (refine wpAnyH_ready (rs := [8]) (by kernel_rfl) (by simp) ?_; refine AllReadyH.cons (o := _) rfl (fun K hK => ?_) AllReadyH.nil; (try simp only [List.getElem_toArray, List.getElem_cons_succ, List.getElem_cons_zero]); go_simp; go_at_call 95; refine (cE2 _).mono ?_; rintro e w1 ⟨rfl, hb⟩; have hk2 := hHeld.next hb; clear hb hHeld; have hHeld := hk2; clear hk2; skip; go_wp2_with fail; refine hK.out _ _ hHeld (fun hHeld => ?_); clear hK K)
          try simp only [List.getElem_toArray, List.getElem_cons_succ, List.getElem_cons_zero, Act.put, List.setIfInBounds_toArray, List.set_cons_zero, List.set_cons_succ]
          first
            | (refine wpAnyH_take (i := 9) (oi := _) (v := undef) rfl (by kernel_rfl) (by kernel_rfl) (by kernel_rfl) (fun _ _ _ h => h) (Or.inr ⟨by rfl, rfl⟩) (by assumption) ?_)
            | (refine wpAnyH_take (i := 9) (oi := _) (v := ?_) rfl (by kernel_rfl) (by kernel_rfl) (by kernel_rfl) (fun _ _ _ h => h) (Or.inl ⟨by rfl, ?_⟩) (by assumption) ?_; rotate_left; (intro wS hSw; obtain ⟨⟨x0, x1, x2, x3, _⟩, ⟨y0, y1, y2, y3, _⟩, _⟩ := hSw; (try simp only [List.getElem_toArray, List.getElem_cons_succ, List.getElem_cons_zero]); go_simp; (try with_reducible rfl)))
          try simp only [List.getElem_toArray, List.getElem_cons_succ, List.getElem_cons_zero, Act.put, List.setIfInBounds_toArray, List.set_cons_zero, List.set_cons_succ]
          first
            | (refine wpAnyH_take (i := 10) (oi := _) (v := undef) rfl (by kernel_rfl) (by kernel_rfl) (by kernel_rfl) (fun _ _ _ h => h) (Or.inr ⟨by rfl, rfl⟩) (by assumption) ?_)
            | (refine wpAnyH_take (i := 10) (oi := _) (v := ?_) rfl (by kernel_rfl) (by kernel_rfl) (by kernel_rfl) (fun _ _ _ h => h) (Or.inl ⟨by rfl, ?_⟩) (by assumption) ?_; rotate_left; (intro wS hSw; obtain ⟨⟨x0, x1, x2, x3, _⟩, ⟨y0, y1, y2, y3, _⟩, _⟩ := hSw; (try simp only [List.getElem_toArray, List.getElem_cons_succ, List.getElem_cons_zero]); go_simp; (try with_reducible rfl)))
          try simp only [List.getElem_toArray, List.getElem_cons_succ, List.getElem_cons_zero, Act.put, List.setIfInBounds_toArray, List.set_cons_zero, List.set_cons_succ]
          first
            | (refine wpAnyH_take (i := 11) (oi := _) (v := undef) rfl (by kernel_rfl) (by kernel_rfl) (by kernel_rfl) (fun _ _ _ h => h) (Or.inr ⟨by rfl, rfl⟩) (by assumption) ?_)
            | (refine wpAnyH_take (i := 11) (oi := _) (v := ?_) rfl (by kernel_rfl) (by kernel_rfl) (by kernel_rfl) (fun _ _ _ h => h) (Or.inl ⟨by rfl, ?_⟩) (by assumption) ?_; rotate_left; (intro wS hSw; obtain ⟨⟨x0, x1, x2, x3, _⟩, ⟨y0, y1, y2, y3, _⟩, _⟩ := hSw; (try simp only [List.getElem_toArray, List.getElem_cons_succ, List.getElem_cons_zero]); go_simp; (try with_reducible rfl)))
          try simp only [List.getElem_toArray, List.getElem_cons_succ, List.getElem_cons_zero, Act.put, List.setIfInBounds_toArray, List.set_cons_zero, List.set_cons_succ]
          first
            | (refine wpAnyH_take (i := 12) (oi := _) (v := undef) rfl (by kernel_rfl) (by kernel_rfl) (by kernel_rfl) (fun _ _ _ h => h) (Or.inr ⟨by rfl, rfl⟩) (by assumption) ?_)
            | (refine wpAnyH_take (i := 12) (oi := _) (v := ?_) rfl (by kernel_rfl) (by kernel_rfl) (by kernel_rfl) (fun _ _ _ h => h) (Or.inl ⟨by rfl, ?_⟩) (by assumption) ?_; rotate_left; (intro wS hSw; obtain ⟨⟨x0, x1, x2, x3, _⟩, ⟨y0, y1, y2, y3, _⟩, _⟩ := hSw; (try simp only [List.getElem_toArray, List.getElem_cons_succ, List.getElem_cons_zero]); go_simp; (try with_reducible rfl)))
          try simp only [List.getElem_toArray, List.getElem_cons_succ, List.getElem_cons_zero, Act.put, List.setIfInBounds_toArray, List.set_cons_zero, List.set_cons_succ]
          first
            | (refine wpAnyH_take (i := 13) (oi := _) (v := undef) rfl (by kernel_rfl) (by kernel_rfl) (by kernel_rfl) (fun _ _ _ h => h) (Or.inr ⟨by rfl, rfl⟩) (by assumption) ?_)
            | (refine wpAnyH_take (i := 13) (oi := _) (v := ?_) rfl (by kernel_rfl) (by kernel_rfl) (by kernel_rfl) (fun _ _ _ h => h) (Or.inl ⟨by rfl, ?_⟩) (by assumption) ?_; rotate_left; (intro wS hSw; obtain ⟨⟨x0, x1, x2, x3, _⟩, ⟨y0, y1, y2, y3, _⟩, _⟩ := hSw; (try simp only [List.getElem_toArray, List.getElem_cons_succ, List.getElem_cons_zero]); go_simp; (try with_reducible rfl)))
          try simp only [List.getElem_toArray, List.getElem_cons_succ, List.getElem_cons_zero, Act.put, List.setIfInBounds_toArray, List.set_cons_zero, List.set_cons_succ]
          refine wpAnyH_done (by kernel_rfl) ?_ _
          go_wp2
          go_ret2
          exact ⟨rfl, hHeld.b⟩
        · rw [meet_no (fun h => hy h.2.2.2)]
          have hy' : (y != y') = true := by simpa using hy
          clear hs hs2 hw
          have hk := K2.first w k y t l k' y' t' l' 26 26
          have HK := hid hk
          clear hk
          go_enter Tryz.func81, Tryz.ntmps81
          go_wp2_with fail
          refine (cS _).mono ?_
          rintro e w1 ⟨rfl, hb⟩
          have hk := HK.out.next hb
          clear hb HK
          obtain ⟨⟨x0, x1, x2, x3, _⟩, ⟨y0, y1, y2, y3, _⟩, _⟩ := id hk
          go_wp2_with fail
          refine (cS2 _).mono ?_
          rintro e w1 ⟨rfl, hb⟩
          have hk := hk.next hb
          clear hb
          obtain ⟨⟨x0, x1, x2, x3, _⟩, ⟨y0, y1, y2, y3, _⟩, _⟩ := id hk
          go_wp2
          go_ret2
          exact ⟨rfl, hk.b⟩
set_option maxHeartbeats 2000000 in
theorem overlap_any (k y t l k' y' t' l' : Int) (ht : t ≤ 9223372036854775807) (ht' : t' ≤ 9223372036854775807) (w : World) :
    Calls Tryz.prog 59 #[.agg #[.int .i64 k, .int .i64 y, .int .i64 t, .int .i64 l], .agg #[.int .i64 k', .int .i64 y', .int .i64 t', .int .i64 l']] w (Says (.bool (overB k y t l k' y' t' l')) w) := by
  have cB := fun w => between_any k y t l k' y' t' l' ht ht' w
  unfold Says overB at *
  generalize betM k y t l k' y' t' l' = R at cB ⊢
  obtain ⟨N, O⟩ := R
  dsimp only at cB ⊢
  cases O with
  | false =>
    have hk := K2.first w k y t l k' y' t' l' 26 26
    have HK := hid hk
    clear hk
    go_enter Tryz.func59, Tryz.ntmps59
    go_wp2_with fail
    refine (cB _).mono ?_
    rintro e w1 ⟨rfl, hb⟩
    have hk := HK.out.next hb
    clear hb HK
    go_wp2
    go_ret
    exact ⟨rfl, hk.b⟩
  | true =>
    rw [Bool.true_and]
    by_cases hn : N < 0
    · have hnd : decide (N < 0) = true := decide_eq_true hn
      rw [hnd]
      have hk := K2.first w k y t l k' y' t' l' 26 26
      have HK := hid hk
      clear hk
      go_enter Tryz.func59, Tryz.ntmps59
      go_wp2_with fail
      refine (cB _).mono ?_
      rintro e w1 ⟨rfl, hb⟩
      have hk := HK.out.next hb
      clear hb HK
      go_wp2
      go_ret
      exact ⟨rfl, hk.b⟩
    · have hnd : decide (N < 0) = false := decide_eq_false hn
      rw [hnd]
      have hk := K2.first w k y t l k' y' t' l' 26 26
      have HK := hid hk
      clear hk
      go_enter Tryz.func59, Tryz.ntmps59
      go_wp2_with fail
      refine (cB _).mono ?_
      rintro e w1 ⟨rfl, hb⟩
      have hk := HK.out.next hb
      clear hb HK
      go_wp2
      go_ret
      exact ⟨rfl, hk.b⟩
end Go.Proofs.YtnpfmoalgphkcaaGreatDoor

namespace Go.Proofs
open Go.Shelf
def Tryz.laysContainsF_ren : Go.Shelf.Ren := ⟨fun | 8 => 60 | 6 => 82 | n => n, fun | 22 => 32 | 23 => 26 | 25 => 98 | 4 => 4 | 3 => 3 | 0 => 0 | n => n, fun | n => n⟩
theorem Tryz.laysContainsF : Go.Proofs.SlLaysH0.n8 Tryz.prog Tryz.laysContainsF_ren := {
  mixed := by kernel_rfl
  f6 := ⟨Tryz.f82.name, by decide, Tryz.func82.trans (congrArg some (by kernel_rfl))⟩
  f8 := ⟨Tryz.f60.name, by decide, Tryz.func60.trans (congrArg some (by kernel_rfl))⟩
  t0 := Tryz.underlying0
  a0 := Tryz.isAgg0
  z0 := Tryz.sizeOf0
  v0 := Tryz.zeroValue0
  t3 := Tryz.underlying3
  a3 := Tryz.isAgg3
  z3 := Tryz.sizeOf3
  v3 := Tryz.zeroValue3
  t4 := Tryz.underlying4
  a4 := Tryz.isAgg4
  z4 := Tryz.sizeOf4
  v4 := Tryz.zeroValue4
  t22 := Tryz.underlying32
  a22 := Tryz.isAgg32
  z22 := Tryz.sizeOf32
  v22 := Tryz.zeroValue32
  t25 := Tryz.underlying98
  a25 := Tryz.isAgg98
  z25 := Tryz.sizeOf98
  v25 := Tryz.zeroValue98 }
end Go.Proofs

