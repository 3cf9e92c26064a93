/-
  Lecturers as data, and in memory: slices of structs that came in, or that the call made. No program beyond the types' facts. Lecturers as data: what is asked .. Conditions: as stated.
-/
import Derived.Test.YtnpfmoalgphkcaaGreatDoorMM01
import Derived.Test.YtnpfmoalgphkcaaGreatDoorMM02
import Derived.Test.YtnpfmoalgphkcaaGreatDoorMM03
import Derived.Test.YtnpfmoalgphkcaaGreatDoorMM04
import Derived.Test.YtnpfmoalgphkcaaGreatDoorMM05
import Derived.Test.YtnpfmoalgphkcaaGreatDoorMM06
import Derived.Test.YtnpfmoalgphkcaaGreatDoorMM07
import Derived.Test.YtnpfmoalgphkcaaGreatDoorMM09
import Derived.Test.YtnpfmoalgphkcaaGreatDoorMM10
import Derived.Test.YtnpfmoalgphkcaaGreatDoorMM11
import Derived.Test.YtnpfmoalgphkcaaGreatDoorProg
import Derived.WalkKit
import Derived.WalkSpells
import Derived.WalkLawsBesides
import Derived.Lib.Hide
import Derived.Deep.QuietTactic
import Derived.BigQuiet
import Derived.Laws.Rows
import Derived.OwnWalk
import Derived.Lib.BufferWrite
import Derived.Lib.UnsafeStr
import Derived.Laws.IdiomStrings
import Derived.Laws.BytesArg
import Derived.Laws.BytesString
import Derived.Laws.OwnMore
import Derived.Lib.IndexLaws
import Derived.Lib.ItoaNum
import Derived.Lib.Atoi
import Derived.Lib.Bytealg
import Derived.Laws.BitsAllLaws
import Derived.Laws.BitsLemmas
import Derived.Deep.MidRow
import Derived.Shelf.Strings.Builder1
import Derived.Shelf.Strings.Builder2
import Derived.Shelf.Strings.OnBuilder
import Derived.Shelf.Strings.BuilderF
import Derived.Shelf.Strings.BuilderK
import Derived.Shelf.Strings.Builder2Cap
import Derived.Shelf.Strconv.Atoi
import Derived.Shelf.Strconv.Itoa0
import Derived.Shelf.Strconv.Itoa1
import Derived.Shelf.LaysM
import Derived.Shelf.Strconv.Itoa2
import Derived.Shelf.Strconv.Itoa3
import Derived.Shelf.Strconv.AtoiErrFast
import Derived.Shelf.Strconv.ParseIntEmpty
import Derived.Shelf.Strconv.AtoiFail
import Derived.Shelf.Strconv.Clone
import Derived.Shelf.Strconv.SyntaxError
import Derived.Shelf.LaysC
import Derived.Shelf.Strconv.ToError
import Derived.Shelf.Strconv.AtoiErr
import Derived.Shelf.Strings.Search1
import Derived.Shelf.Strings.Search2
import Derived.Shelf.Strings.Search3
import Derived.Shelf.Strings.Cut
import Derived.Shelf.Strings.Shaped
import Derived.Shelf.Strings.Prefix
import Derived.Shelf.Unicode.DecodeSlow
import Derived.Shelf.Strings.BuilderCap
import Derived.Lib.AtoiErrMem
import Derived.Handy
import Derived.RangeFuncNested
import Derived.RangeFuncBound
import Derived.RangeFuncCalls
import Derived.RangeFuncLeaves
import Derived.Shelf.Abstract
import Derived.Shelf.RegionOpen
import Derived.OwnWalkIn
import Derived.Lib.SlTrimSet
import Derived.Shelf.Strings.SlTrimAscii
import Derived.Laws.ResultCell
import Derived.RegionTactic
import Derived.Lib.Repeat
import Derived.Deep.RegionHeld3
import Derived.Lib.SlicesS
import Derived.TacticsInMore
import Derived.LoopNIn
import Derived.LoopIn
import Derived.Deep.DeepCutAuto
import Derived.Lib.Join
import Derived.Laws.Concat
import Derived.Maps.OwnSet
import Derived.Maps.Range
import Derived.Sort.EncStr
import Derived.Deep.RegionLaw
set_option linter.unusedVariables false
namespace Go.Proofs.YtnpfmoalgphkcaaGreatDoor
open Go Go.Proofs Go.RowKit Go.Lib
abbrev LectD := Str × List TimeD
abbrev LectA := Option Addr × Nat
def lectVs (x : LectD) (q : LectA) : List Value := [.string (ba x.1), .slice q.1 x.2.length q.2]
def lectV (x : LectD) (q : LectA) : Value := .agg #[.string (ba x.1), .slice q.1 x.2.length q.2]
structure LectIn (w : World) (P : Nat → Prop) (x : LectD) (q : LectA) : Prop where
  t : TimesIn w P q.1 x.2
  t1 : x.2.length ≤ q.2
  t2 : q.2 ≤ 9223372036854775807
theorem LectIn.kept {w w' : World} {P : Nat → Prop} {x : LectD} {q : LectA} (h : LectIn w P x q) (hk : ∀ b, P b → w'.heap[b]? = w.heap[b]?) : LectIn w' P x q := ⟨h.t.kept hk, h.t1, h.t2⟩
theorem LectIn.mono {w : World} {P P' : Nat → Prop} {x : LectD} {q : LectA} (h : LectIn w P x q) (hP : ∀ b, P b → P' b) : LectIn w P' x q := ⟨h.t.mono hP, h.t1, h.t2⟩
theorem LectIn.below {w w' : World} {B : Nat} {x : LectD} {q : LectA} (h : LectIn w (fun b => b < B) x q) (hb : Below B w w') : LectIn w' (fun b => b < B) x q := h.kept fun b hB => hb.block b hB
def LectsIn (w : World) (P : Nat → Prop) (A : Option Addr) (l : List LectD) : Prop :=
  l = [] ∨ ∃ b off, A = some ⟨b, off, none⟩ ∧ P b ∧ ∀ (j : Nat) (x : LectD), l[j]? = some x → ∃ q, LectIn w P x q ∧ ∀ (i : Nat) (v : Value), (lectVs x q)[i]? = some v → w.cell? ⟨b, off + j * 2 + i, none⟩ = some v
theorem LectsIn.kept {w w' : World} {P : Nat → Prop} {A : Option Addr} {l : List LectD} (h : LectsIn w P A l) (hk : ∀ b, P b → w'.heap[b]? = w.heap[b]?) : LectsIn w' P A l := by
  rcases h with h | ⟨b, off, hA, hP, hc⟩
  · exact .inl h
  · refine .inr ⟨b, off, hA, hP, fun j r hj => ?_⟩
    obtain ⟨q, h1, h2⟩ := hc j r hj
    exact ⟨q, h1.kept hk, fun i v hv => (World.cell?_of_block (w := w) (hk b hP)).trans (h2 i v hv)⟩
theorem LectsIn.mono {w : World} {P P' : Nat → Prop} {A : Option Addr} {l : List LectD} (h : LectsIn w P A l) (hP : ∀ b, P b → P' b) : LectsIn w P' A l := by
  rcases h with h | ⟨b, off, hA, hb, hc⟩
  · exact .inl h
  · refine .inr ⟨b, off, hA, hP b hb, fun j r hj => ?_⟩
    obtain ⟨q, h1, h2⟩ := hc j r hj
    exact ⟨q, h1.mono hP, h2⟩
theorem LectsIn.below {w w' : World} {B : Nat} {A : Option Addr} {l : List LectD} (h : LectsIn w (fun b => b < B) A l) (hb : Below B w w') : LectsIn w' (fun b => b < B) A l := h.kept fun b hB => hb.block b hB
theorem LectsIn.at_ {w : World} {P : Nat → Prop} {A : Option Addr} {l : List LectD} (h : LectsIn w P A l) {k : Nat} (hk : k < l.length) :
    ∃ b off q, A = some ⟨b, off, none⟩ ∧ P b ∧ LectIn w P l[k] q ∧ w.cell? ⟨b, off + k * 2, none⟩ = some (.string (ba l[k].1)) ∧ w.cell? ⟨b, off + k * 2 + 1, none⟩ = some (.slice q.1 l[k].2.length q.2) := by
  rcases h with h | ⟨b, off, hA, hP, hc⟩
  · subst h; simp at hk
  · obtain ⟨q, h1, h2⟩ := hc k _ (List.getElem?_eq_getElem hk)
    exact ⟨b, off, q, hA, hP, h1, h2 0 _ rfl, h2 1 _ rfl⟩
structure Box2 (w : World) (B : Nat) (v0 v1 : Value) : Prop where
  h : w.heap[B]? = some (.cells #[v0, v1] 34 (0, 0))
theorem Box2.new (w : World) (v0 v1 : Value) : Box2 (w.alloc (.cells #[v0, v1] 34)) w.heap.size v0 v1 := ⟨heap_alloc_new w _⟩
theorem Box2.lt {w : World} {B : Nat} {v0 v1 : Value} (h : Box2 w B v0 v1) : B < w.heap.size := (Array.getElem?_eq_some_iff.1 h.h).1
theorem Box2.kept {w w' : World} {B : Nat} {v0 v1 : Value} (h : Box2 w B v0 v1) (hk : w'.heap[B]? = w.heap[B]?) : Box2 w' B v0 v1 := ⟨hk.trans h.h⟩
theorem Box2.below {w w' : World} {B C : Nat} {v0 v1 : Value} (h : Box2 w B v0 v1) (hb : Below C w w') (hC : B < C) : Box2 w' B v0 v1 := h.kept (hb.block B hC)
theorem Box2.next {w w' : World} {B : Nat} {v0 v1 : Value} (h : Box2 w B v0 v1) (hb : Below w.heap.size w w') : Box2 w' B v0 v1 := h.below hb h.lt
theorem Box2.cells {w : World} {B : Nat} {v0 v1 : Value} (h : Box2 w B v0 v1) : w.cell? ⟨B, 0, none⟩ = some v0 ∧ w.cell? ⟨B, 1, none⟩ = some v1 := by
  refine ⟨?_, ?_⟩ <;> (rw [Lib.cell_of_heap h.h]; rfl)
theorem Box2.free {w : World} {B : Nat} {v0 v1 : Value} (h : Box2 w B v0 v1) (j : Nat) : w.frozen? ⟨B, j, none⟩ = false := by simp [World.frozen?, h.h]
structure Box1 (w : World) (B : Nat) (T : TypeId) (v : Value) : Prop where
  h : w.heap[B]? = some (.cells #[v] T (0, 0))
theorem Box1.new (w : World) (T : TypeId) (v : Value) : Box1 (w.alloc (.cells #[v] T)) w.heap.size T v := ⟨heap_alloc_new w _⟩
theorem Box1.lt {w : World} {B : Nat} {T : TypeId} {v : Value} (h : Box1 w B T v) : B < w.heap.size := (Array.getElem?_eq_some_iff.1 h.h).1
theorem Box1.kept {w w' : World} {B : Nat} {T : TypeId} {v : Value} (h : Box1 w B T v) (hk : w'.heap[B]? = w.heap[B]?) : Box1 w' B T v := ⟨hk.trans h.h⟩
theorem Box1.below {w w' : World} {B C : Nat} {T : TypeId} {v : Value} (h : Box1 w B T v) (hb : Below C w w') (hC : B < C) : Box1 w' B T v := h.kept (hb.block B hC)
theorem Box1.next {w w' : World} {B : Nat} {T : TypeId} {v : Value} (h : Box1 w B T v) (hb : Below w.heap.size w w') : Box1 w' B T v := h.below hb h.lt
theorem Box1.cell {w : World} {B : Nat} {T : TypeId} {v : Value} (h : Box1 w B T v) : w.cell? ⟨B, 0, none⟩ = some v := by
  rw [Lib.cell_of_heap h.h]; rfl
theorem infoLect : (Tryz.prog.info? 34).map (fun i => (i.zero, i.size, i.bytes)) = some (some (.agg #[.string ⟨#[]⟩, .slice none 0 0]), 2, 40) := by kernel_rfl
def lectVals (l : List (LectD × LectA)) : List Value := l.flatMap fun p => lectVs p.1 p.2
theorem lectVals_app (a b : List (LectD × LectA)) : lectVals (a ++ b) = lectVals a ++ lectVals b := by simp [lectVals]
theorem lectVals_len : ∀ l : List (LectD × LectA), (lectVals l).length = l.length * 2
  | [] => rfl
  | t :: r => by
    have := lectVals_len r
    unfold lectVals at this ⊢
    rw [List.flatMap_cons, List.length_append, this, List.length_cons]
    show 2 + _ = _
    omega
theorem lectVals_get : ∀ (l : List (LectD × LectA)) (j : Nat) (t : LectD × LectA), l[j]? = some t → ∀ (i : Nat) (v : Value), (lectVs t.1 t.2)[i]? = some v → (lectVals l)[j * 2 + i]? = some v
  | [], j, t, h, _, _, _ => by simp at h
  | a :: r, 0, t, h, i, v, hv => by
    simp at h
    subst h
    have hi : i < 2 := (List.getElem?_eq_some_iff.1 hv).1
    unfold lectVals
    rw [List.flatMap_cons, List.getElem?_append_left (by show _ < 2; omega)]
    simpa using hv
  | a :: r, j + 1, t, h, i, v, hv => by
    have := lectVals_get r j t (by simpa using h) i v hv
    unfold lectVals at this ⊢
    rw [List.flatMap_cons, List.getElem?_append_right (by show 2 ≤ _; omega)]
    show (List.flatMap _ r)[(j + 1) * 2 + i - 2]? = _
    rw [show (j + 1) * 2 + i - 2 = j * 2 + i by omega]
    exact this
theorem lectVals_one : ∀ (l : List (LectD × LectA)), ∀ u ∈ lectVals l, u.oneCell' = true := by
  intro l u hu
  obtain ⟨t, _, h⟩ := List.mem_flatMap.1 hu
  simp [lectVs] at h
  rcases h with rfl | rfl <;> rfl
def LectRow (w : World) (B : Nat) (P : Nat → Prop) (v : Value) (l : List LectD) : Prop := ∃ L : List (LectD × LectA), L.map (·.1) = l ∧ w.ownsRow B 34 2 v l.length (lectVals L) ∧ ∀ p ∈ L, LectIn w P p.1 p.2
theorem LectRow.lectsIn {w : World} {B : Nat} {P : Nat → Prop} {v : Value} {l : List LectD} (h : LectRow w B P v l) : ∃ A c, v = .slice A l.length c ∧ l.length ≤ c ∧ c ≤ 9223372036854775807 ∧ LectsIn w (fun b => P b ∨ (B ≤ b ∧ b < w.heap.size)) A l := by
  obtain ⟨L, rfl, h, hL⟩ := h
  have h' := h
  rcases h.2 with ⟨hv, h0⟩ | ⟨g, cap, cur, hv, hB, hg, h1, h2, _⟩
  · have hl : L.map (·.1) = [] := List.eq_nil_of_length_eq_zero h0
    rw [hl]
    exact ⟨none, 0, by rw [hv]; rfl, Nat.le_refl _, by omega, .inl rfl⟩
  · refine ⟨_, cap, hv, h1, by unfold maxLen at h2; omega, .inr ⟨g, 0, rfl, .inr ⟨hB, (Array.getElem?_eq_some_iff.1 hg).1⟩, fun j r hj => ?_⟩⟩
    rw [List.getElem?_map] at hj
    obtain ⟨p, hp, rfl⟩ := Option.map_eq_some_iff.1 hj
    refine ⟨p.2, (hL p (List.mem_of_getElem? hp)).mono (fun b hb => .inl hb), fun i v' hv' => ?_⟩
    have := World.ownsRow.cells h' (g := g) (by rw [hv]; rfl) (j * 2 + i) v' (lectVals_get L j p hp i v' hv')
    rw [Addr.add_lit] at this
    rw [← Nat.add_assoc] at this
    exact this
def lectM (d s b m n : Int) (x : LectD) : Int :=
  if S3.validC x.1 = false then 10 else if 24 < x.2.length then 2 else if x.2.any (unfitB d s b m n) = true then 14 else 0
def goL (d s b m n : Int) : List Str → List LectD → Int
  | _, [] => 0
  | seen, r :: rs => if lectM d s b m n r ≠ 0 then lectM d s b m n r else if r.1 ∈ seen then 11 else goL d s b m n (seen ++ [r.1]) rs
def validL (d s b m n : Int) (l : List LectD) : Int := if frameB d s b m n = false then 1 else if 32 < l.length then 2 else goL d s b m n [] l
def codesL (l : List LectD) : List Str := l.map (·.1)
theorem goL_step (d s b m n : Int) (l : List LectD) (i : Nat) (h : i < l.length) :
    goL d s b m n (codesL (l.take i)) (l.drop i) = if lectM d s b m n l[i] ≠ 0 then lectM d s b m n l[i] else if l[i].1 ∈ codesL (l.take i) then 11 else goL d s b m n (codesL (l.take (i + 1))) (l.drop (i + 1)) := by
  have e : codesL (l.take i ++ [l[i]]) = codesL (l.take i) ++ [l[i].1] := by unfold codesL; rw [List.map_append]; rfl
  rw [List.drop_eq_getElem_cons h, goL, List.take_succ_eq_append_getElem h, e]
def rowL (d s b m n : Int) (x : LectD) : List Str := [x.1, timesS d s b m n x.2]
def writeL (d s b m n : Int) (l : List LectD) : List (List Str) × Int := if validL d s b m n l ≠ 0 then ([], validL d s b m n l) else (l.map (rowL d s b m n), 0)
def clearM (l : List TimeD) (t : TimeD) : Bool := !(l.any fun x => overB x.1 x.2.1 x.2.2.1 x.2.2.2 t.1 t.2.1 t.2.2.1 t.2.2.2)
theorem goL_ok {d s b m n : Int} : ∀ (l : List LectD) (seen : List Str), goL d s b m n seen l = 0 → ∀ r ∈ l, lectM d s b m n r = 0
  | [], _, _, r, hr => by simp at hr
  | x :: xs, seen, h, r, hr => by
    unfold goL at h
    by_cases h1 : lectM d s b m n x = 0
    · rw [if_neg (by simpa using h1)] at h
      split at h
      · simp at h
      · rcases List.mem_cons.1 hr with rfl | hr
        · exact h1
        · exact goL_ok xs _ h r hr
    · rw [if_pos h1] at h
      exact absurd h h1
theorem validL_ok {d s b m n : Int} {l : List LectD} (h : validL d s b m n l = 0) : l.length ≤ 32 ∧ ∀ r ∈ l, lectM d s b m n r = 0 := by
  unfold validL at h
  split at h
  · simp at h
  · split at h
    · simp at h
    · exact ⟨by omega, goL_ok l [] h⟩
theorem lectM_len {d s b m n : Int} {x : LectD} (h : lectM d s b m n x = 0) : x.2.length ≤ 24 := by
  unfold lectM at h
  split at h
  · simp at h
  · split at h
    · simp at h
    · omega
theorem lectM_code {d s b m n : Int} {x : LectD} (h : lectM d s b m n x = 0) : S3.validC x.1 = true := by
  cases hv : S3.validC x.1 with
  | true => rfl
  | false =>
    unfold lectM at h
    rw [if_pos hv] at h
    simp at h
end Go.Proofs.YtnpfmoalgphkcaaGreatDoor
namespace Go.Proofs.YtnpfmoalgphkcaaGreatDoor
open Go Go.Proofs Go.RowKit Go.Lib
open Go.Maps (Keyed string_keyed)
open Go.WideMaps (keyOf_string_mk)
def aggL : Value → Option (DataW Unit × List MemPlace)
  | .agg ⟨[.string _, .slice _ _ _]⟩ => some (.agg [], [])
  | _ => none
theorem aggL_mk (a : ByteArray) (A1 : Option Addr) (n1 c1 : Nat) : aggL (.agg #[.string a, .slice A1 n1 c1]) = some (.agg [], []) := rfl
theorem aggL_inv {v : Value} {z : DataW Unit × List MemPlace} (h : aggL v = some z) : ∃ (a : ByteArray) (A1 : Option Addr) (n1 c1 : Nat), v = .agg #[.string a, .slice A1 n1 c1] := by
  unfold aggL at h
  split at h
  · exact ⟨_, _, _, _, rfl⟩
  · cases h
structure KMap (w : World) (B : Nat) (l : List Str) : Prop where
  own : w.ownsMap Tryz.prog 9 aggL B l.length (setR l)
  sz : Maps.size (setR l) = l.length
theorem KMap.made (w : World) : KMap (w.alloc (.map #[] 0)) w.heap.size [] := ⟨World.ownsMap_made _ _ _ _, rfl⟩
theorem KMap.kept {w w' : World} {B : Nat} {l : List Str} {row : Option Nat} (h : KMap w B l) (hg : w.grownBy w' row) (hne : some B ≠ row) : KMap w' B l := ⟨h.own.kept hg hne, h.sz⟩
theorem KMap.below {w w' : World} {B : Nat} {l : List Str} (h : KMap w B l) (hb : Below w.heap.size w w') : KMap w' B l := h.kept (below_grown hb (Nat.le_refl _)) (by simp)
theorem KMap.lt {w : World} {B : Nat} {l : List Str} (h : KMap w B l) : B < w.heap.size := h.own.lt
theorem zeroLect (w : World) : (zeroValue 34).run Tryz.prog w = .ok (.agg #[.string ⟨#[]⟩, .slice none 0 0]) w := by kernel_rfl
theorem wpList_lookup_lect {P : Program} (w : World) {ops : Array Oper} {rest : List Oper} {o : Oper} {a : Act} {Q : Exit → Act → World → Prop} (hg : o.guard = none) (m x : Operand) (t : TypeId) (hop : o.op = Op.lookup t m x true)
    (k e : TypeId) (K : Keyed P k) (ht : P.underlying t = some (.map k e)) {z : Value} (hz : (zeroValue e).run P w = .ok z w) (hzd : aggL z = some (.agg [], [])) (b n : Nat) (D : DataW Unit)
    (hm : a.eval m = .map (some b)) (hown : w.ownsMap P k aggL b n D) (key : Value) (kl : Lit) (hx : a.eval x = key) (hkey : keyOf P k key = some kl)
    (hK : ∀ (x : ByteArray) (A1 : Option Addr) (n1 c1 : Nat), wpList P ops Q rest (a.put o.dst (.tuple #[.agg #[.string x, .slice A1 n1 c1], .bool (Maps.has D kl)])) w) :
    wpList P ops Q (o :: rest) a w :=
  wpList_lookup_own_ok w hg m x t hop k e K ht aggL hz (.agg []) [] hzd b n D hm hown key kl hx hkey (fun v ps hv => by
    obtain ⟨x, A1, n1, c1, rfl⟩ := aggL_inv hv
    exact hK x A1 n1 c1)
def addK (most : Nat) (l : List Str) (c : Str) : List Str × Int := if c ∈ l then (l, 11) else if l.length = most then (l, 2) else (l ++ [c], 0)
def AddOutK (most : Nat) (l : List Str) (c : Str) (B : Nat) (w : World) (e : Ending) (w' : World) : Prop := e = .returned (.int .i64 (addK most l c).2) ∧ KMap w' B (addK most l c).1 ∧ w.grownBy w' (some B)
structure DistIn (w : World) (KB AB MB M : Nat) : Prop where
  k : Box1 w KB 73 (.func (.func 41) #[] #[])
  a : Box1 w AB 102 (.map (some M))
  m : Box1 w MB 3 (.int .i64 32)
theorem DistIn.kept {w w' : World} {KB AB MB M : Nat} (h : DistIn w KB AB MB M) (hk : ∀ b, b = KB ∨ b = AB ∨ b = MB → w'.heap[b]? = w.heap[b]?) : DistIn w' KB AB MB M :=
  ⟨h.k.kept (hk _ (.inl rfl)), h.a.kept (hk _ (.inr (.inl rfl))), h.m.kept (hk _ (.inr (.inr rfl)))⟩
theorem DistIn.next {w w' : World} {KB AB MB M : Nat} (h : DistIn w KB AB MB M) (hb : Below w.heap.size w w') : DistIn w' KB AB MB M := ⟨h.k.next hb, h.a.next hb, h.m.next hb⟩
set_option maxHeartbeats 1000000 in
theorem codeOf_any (c : ByteArray) (A1 : Option Addr) (n1 c1 : Nat) (w : World) : Calls Tryz.prog 41 #[.agg #[.string c, .slice A1 n1 c1]] w fun e w' => e = .returned (.string c) ∧ Below w.heap.size w w' := by
  go_enter Tryz.func41, Tryz.ntmps41
  go_wp2
  go_ret
  exact ⟨rfl, (Below.refl _ _).alloc (Nat.le_refl _) _⟩
set_option maxHeartbeats 4000000 in
set_option maxRecDepth 100000 in
theorem dist_any (KB AB MB M : Nat) (l : List Str) (c : ByteArray) (A1 : Option Addr) (n1 c1 : Nat) (hl : l.length ≤ 32) (hc : c.size ≤ maxLen) (w : World) (hD : DistIn w KB AB MB M) (h : KMap w M l) :
    Calls Tryz.prog 65 #[.agg #[.string c, .slice A1 n1 c1], .pointer (some ⟨KB, 0, none⟩), .pointer (some ⟨AB, 0, none⟩), .pointer (some ⟨MB, 0, none⟩)] w (AddOutK 32 l (lst c) M w) := by
  have eg : ∀ args w, (callFunc 41 args).run Tryz.prog w = .ok (.enter 41 args) w := enters_of Tryz.func41 (by kernel_rfl) rfl
  unfold AddOutK addK
  have hkey : keyOf Tryz.prog 9 (.string c) = some (litS (lst c)) := keyOf_string_mk Tryz.underlying9 hc
  have hhas := has_setR l (lst c)
  have hBl := h.lt
  have hb1 := (Below.refl w.heap.size w).alloc (Nat.le_refl _) (.cells #[.string c, .slice A1 n1 c1] 34)
  have hX := Box2.new w (.string c) (.slice A1 n1 c1)
  obtain ⟨w1, hw1⟩ : ∃ w1, w.alloc (.cells #[.string c, .slice A1 n1 c1] 34) = w1 := ⟨_, rfl⟩
  rw [hw1] at hb1 hX
  have hD1 := hD.next hb1
  have hM1 := h.below hb1
  have hkl := hD.k.lt
  have hkc := hD.k.cell
  have hk1 : (w.alloc (.cells #[.string c, .slice A1 n1 c1] 34)).cell? ⟨KB, 0, none⟩ = some (.func (.func 41) #[] #[]) := Lib.cell?_alloc_some _ hkc
  have H1 := hid hM1
  have HD1 := hid hD1
  have HX := hid hX
  have HB1 := hid hb1
  have HKEY := hid hkey
  have HW1 := hid hw1
  clear hM1 hD1 hX hb1 hkey hw1 h hD hkl hkc
  by_cases hm : lst c ∈ l
  · rw [if_pos hm]
    rw [decide_eq_true hm] at hhas
    have HHAS := hid hhas
    clear hhas hm
    go_enter Tryz.func65, Tryz.ntmps65
    go_wp2_with fail
    rw [HW1.out]
    refine (codeOf_any c A1 n1 c1 w1).mono ?_
    rintro e w2 ⟨rfl, hb2⟩
    have hD2 := HD1.out.next hb2
    have hM2 := H1.out.below hb2
    have hX2 := HX.out.next hb2
    obtain ⟨x0, x1⟩ := hX2.cells
    have a0 := hD2.a.cell
    have m0 := hD2.m.cell
    have al := hD2.a.lt
    have ml := hD2.m.lt
    have xl := hX2.lt
    have HB2 := hid (HB1.out.trans (hb2.mono HB1.out.size))
    have H2 := hid hM2
    clear hb2 hD2 hM2 hX2 hk1
    obtain ⟨W2, hW2⟩ : ∃ W2, W2 = w2 := ⟨_, rfl⟩
    clear hW2
    go_wp2_with (first
      | (at_lookup; refine wpList_lookup_lect _ rfl _ _ 102 rfl 9 34 law9 Tryz.underlying102 (zeroLect _) (aggL_mk _ _ _ _) M l.length (setR l) rfl H2.out.own _ _ rfl HKEY.out ?_; intro u0 u1 u2 u3; rw [HHAS.out])
      | go_in)
    go_ret
    exact ⟨rfl, H2.out.below ((Below.refl _ _).alloc (Nat.le_refl _) _), grown_none (below_grown (HB2.out.trans ((Below.refl _ _).alloc HB2.out.size _)) (Nat.le_refl _))⟩
  · rw [if_neg hm]
    rw [decide_eq_false hm] at hhas
    have HHAS := hid hhas
    have hsz := H1.out.sz
    by_cases h16 : l.length = 32
    · rw [if_pos h16]
      rw [h16] at hsz
      have HSZ := hid hsz
      clear hhas hsz hm
      go_enter Tryz.func65, Tryz.ntmps65
      go_wp2_with fail
      rw [HW1.out]
      refine (codeOf_any c A1 n1 c1 w1).mono ?_
      rintro e w2 ⟨rfl, hb2⟩
      have hD2 := HD1.out.next hb2
      have hM2 := H1.out.below hb2
      have hX2 := HX.out.next hb2
      obtain ⟨x0, x1⟩ := hX2.cells
      have a0 := hD2.a.cell
      have m0 := hD2.m.cell
      have al := hD2.a.lt
      have ml := hD2.m.lt
      have xl := hX2.lt
      have HB2 := hid (HB1.out.trans (hb2.mono HB1.out.size))
      have H2 := hid hM2
      clear hb2 hD2 hM2 hX2 hk1
      obtain ⟨W2, hW2⟩ : ∃ W2, W2 = w2 := ⟨_, rfl⟩
      clear hW2
      go_wp2_with (first
        | (at_lookup; refine wpList_lookup_lect _ rfl _ _ 102 rfl 9 34 law9 Tryz.underlying102 (zeroLect _) (aggL_mk _ _ _ _) M l.length (setR l) rfl H2.out.own _ _ rfl HKEY.out ?_; intro u0 u1 u2 u3; rw [HHAS.out])
        | (at_len; refine wpList_len_own _ rfl _ 102 rfl 9 34 Tryz.underlying102 aggL M l.length (setR l) rfl (H2.out.own.alloc _) ?_; rw [HSZ.out])
        | go_in)
      go_ret
      exact ⟨rfl, H2.out.below ((Below.refl _ _).alloc (Nat.le_refl _) _), grown_none (below_grown (HB2.out.trans ((Below.refl _ _).alloc HB2.out.size _)) (Nat.le_refl _))⟩
    · rw [if_neg h16]
      have HSZ := hid hsz
      have h16z : ((l.length : Nat) : Int) ≠ 32 := by omega
      have h16b : (((l.length : Nat) : Int) == 32) = false := by simpa using h16z
      clear hhas hsz hm
      go_enter Tryz.func65, Tryz.ntmps65
      go_wp2_with fail
      rw [HW1.out]
      refine (codeOf_any c A1 n1 c1 w1).mono ?_
      rintro e w2 ⟨rfl, hb2⟩
      have hD2 := HD1.out.next hb2
      have hM2 := H1.out.below hb2
      have hX2 := HX.out.next hb2
      obtain ⟨x0, x1⟩ := hX2.cells
      have a0 := hD2.a.cell
      have m0 := hD2.m.cell
      have al := hD2.a.lt
      have ml := hD2.m.lt
      have xl := hX2.lt
      have HB2 := hid (HB1.out.trans (hb2.mono HB1.out.size))
      have H2 := hid hM2
      clear hb2 hD2 hM2 hX2 hk1
      obtain ⟨W2, hW2⟩ : ∃ W2, W2 = w2 := ⟨_, rfl⟩
      clear hW2
      go_wp2_with (first
        | (at_lookup; refine wpList_lookup_lect _ rfl _ _ 102 rfl 9 34 law9 Tryz.underlying102 (zeroLect _) (aggL_mk _ _ _ _) M l.length (setR l) rfl H2.out.own _ _ rfl HKEY.out ?_; intro u0 u1 u2 u3; rw [HHAS.out])
        | (at_len; refine wpList_len_own _ rfl _ 102 rfl 9 34 Tryz.underlying102 aggL M l.length (setR l) rfl (H2.out.own.alloc _) ?_; rw [HSZ.out])
        | (at_mapUpdate; refine wpList_mapUpdate_own _ rfl _ _ _ 102 rfl 9 34 law9 Tryz.underlying102 aggL M l.length (setR l) rfl (H2.out.own.alloc _) (by unfold maxLen; omega) _ _ _ rfl rfl HKEY.out _ [] (aggL_mk _ _ _ _) ?_; intro w3 hown3 hgrow3)
        | go_in)
      go_ret
      refine ⟨rfl, ⟨?_, ?_⟩, ?_⟩
      · rw [setR_snoc, List.length_append, List.length_singleton]
        exact hown3
      · rw [setR_snoc, Maps.size_put (H2.out.own.tidy law9), HHAS.out, HSZ.out, List.length_append, List.length_singleton]
        rfl
      · exact (grown_none (below_grown (HB2.out.trans ((Below.refl _ _).alloc HB2.out.size _)) (Nat.le_refl _))).andThen hgrow3 (fun j hj => .inr hj)
def DistOut (w : World) (e : Ending) (w' : World) : Prop := ∃ KB AB MB M, e = .returned (.func (.func 65) #[] #[.pointer (some ⟨KB, 0, none⟩), .pointer (some ⟨AB, 0, none⟩), .pointer (some ⟨MB, 0, none⟩)]) ∧ DistIn w' KB AB MB M ∧ KMap w' M [] ∧
  w.heap.size ≤ M ∧ KB ≠ M ∧ AB ≠ M ∧ MB ≠ M ∧ Below w.heap.size w w'
set_option maxHeartbeats 1000000 in
theorem distinct_any (w : World) : Calls Tryz.prog 40 #[.int .i64 32, .func (.func 41) #[] #[]] w (DistOut w) := by
  have hmm := @run_makeMap Tryz.prog
  go_enter Tryz.func40, Tryz.ntmps40
  go_wp2
  go_ret
  refine ⟨w.heap.size + 1, w.heap.size + 1 + 1 + 1, w.heap.size, w.heap.size + 1 + 1, rfl, ?_⟩
  have e1 := Box1.new w 3 (.int .i64 32)
  have b1 := (Below.refl w.heap.size w).alloc (Nat.le_refl _) (.cells #[.int .i64 32] 3)
  have s1 : (w.alloc (.cells #[.int .i64 32] 3)).heap.size = w.heap.size + 1 := by simp
  generalize w.alloc (.cells #[.int .i64 32] 3) = w1 at e1 b1 s1 ⊢
  have e2 := Box1.new w1 73 (.func (.func 41) #[] #[])
  have b2 := (Below.refl w1.heap.size w1).alloc (Nat.le_refl _) (.cells #[.func (.func 41) #[] #[]] 73)
  have s2 : (w1.alloc (.cells #[.func (.func 41) #[] #[]] 73)).heap.size = w.heap.size + 1 + 1 := by simp [s1]
  rw [s1] at e2
  generalize w1.alloc (.cells #[.func (.func 41) #[] #[]] 73) = w2 at e2 b2 s2 ⊢
  have e3 := KMap.made w2
  have b3 := (Below.refl w2.heap.size w2).alloc (Nat.le_refl _) (.map #[] 0)
  have s3 : (w2.alloc (.map #[] 0)).heap.size = w.heap.size + 1 + 1 + 1 := by simp [s2]
  rw [s2] at e3
  generalize w2.alloc (.map #[] 0) = w3 at e3 b3 s3 ⊢
  have e4 := Box1.new w3 102 (.map (some (w.heap.size + 1 + 1)))
  have b4 := (Below.refl w3.heap.size w3).alloc (Nat.le_refl _) (.cells #[.map (some (w.heap.size + 1 + 1))] 102)
  rw [s3] at e4
  generalize w3.alloc (.cells #[.map (some (w.heap.size + 1 + 1))] 102) = w4 at e4 b4 ⊢
  refine ⟨⟨(e2.next b3).next b4, e4, ((e1.next b2).next b3).next b4⟩, e3.below b4, by omega, by omega, by omega, by omega, ?_⟩
  exact b1.trans ((b2.mono (by omega)).trans ((b3.mono (by omega)).trans (b4.mono (by omega))))
end Go.Proofs.YtnpfmoalgphkcaaGreatDoor
namespace Go.Proofs.YtnpfmoalgphkcaaGreatDoor.S9
open Go Go.Proofs Go.RowKit Go.Lib Go.Proofs.YtnpfmoalgphkcaaGreatDoor
def setF (d s b m n : Int) (i : Nat) (x : Str) (r : LectD) : LectD × Int :=
  match i with
  | 0 => if S3.validC x = true then ((x, r.2), 0) else (([], r.2), 10)
  | 1 => ((r.1, (timesM d s b m n x).1), (timesM d s b m n x).2)
  | _ => (r, 0)
def zeroR : LectD := ([], [])
def efold (d s b m n : Int) : List FieldD → Nat → LectD → LectD × Int × Int
  | [], _, r => (r, 0, 0)
  | f :: fs, i, r => if (setF d s b m n i f.1 r).2 ≠ 0 then ((setF d s b m n i f.1 r).1, f.2.1, (setF d s b m n i f.1 r).2) else efold d s b m n fs (i + 1) (setF d s b m n i f.1 r).1
def entryM (d s b m n : Int) (fs : List FieldD) : LectD × Int × Int := if fs.length ≠ 2 then (zeroR, 0, 9) else efold d s b m n fs 0 zeroR
theorem efold_step (d s b m n : Int) (fs : List FieldD) (i : Nat) (h : i < fs.length) (r : LectD) :
    efold d s b m n (fs.drop i) i r = if (setF d s b m n i fs[i].1 r).2 ≠ 0 then ((setF d s b m n i fs[i].1 r).1, fs[i].2.1, (setF d s b m n i fs[i].1 r).2) else efold d s b m n (fs.drop (i + 1)) (i + 1) (setF d s b m n i fs[i].1 r).1 := by
  rw [List.drop_eq_getElem_cons h, efold]
def addC (l : List LectD) (c : Str) : Int := if c ∈ codesL l then 11 else if l.length = 32 then 2 else 0
def recM (d s b m n : Int) (st : List LectD × List ProbD) (x : RecD) : List LectD × List ProbD :=
  if (entryM d s b m n x.2).2.2 ≠ 0 then (st.1, st.2 ++ [(x.1, (entryM d s b m n x.2).2.1, (entryM d s b m n x.2).2.2)])
  else if addC st.1 (entryM d s b m n x.2).1.1 ≠ 0 then (st.1, st.2 ++ [(x.1, (entryM d s b m n x.2).2.1, addC st.1 (entryM d s b m n x.2).1.1)])
  else (st.1 ++ [(entryM d s b m n x.2).1], st.2)
def recsM (d s b m n : Int) (l : List RecD) : List LectD × List ProbD := l.foldl (recM d s b m n) ([], [])
def readM (d s b m n : Int) (l : List RecD) : List LectD × List ProbD := if frameB d s b m n = true then recsM d s b m n l else ([], [(0, 0, 1)])
theorem recsM_take (d s b m n : Int) (l : List RecD) (i : Nat) (h : i < l.length) : recsM d s b m n (l.take (i + 1)) = recM d s b m n (recsM d s b m n (l.take i)) l[i] := by
  unfold recsM
  rw [List.take_succ_eq_append_getElem h, List.foldl_append]
  rfl
theorem recM_room_len (d s b m n : Int) (st : List LectD × List ProbD) (x : RecD) (h : st.1.length ≤ 32) : (recM d s b m n st x).1.length ≤ 32 := by
  unfold recM
  split
  · exact h
  · split
    · exact h
    · rename_i h2
      unfold addC at h2
      by_cases h3 : (entryM d s b m n x.2).1.1 ∈ codesL st.1
      · rw [if_pos h3] at h2; simp at h2
      · rw [if_neg h3] at h2
        by_cases h4 : st.1.length = 32
        · rw [if_pos h4] at h2; simp at h2
        · simp; omega
theorem recsM_len (d s b m n : Int) (l : List RecD) : (recsM d s b m n l).1.length ≤ 32 := by
  unfold recsM
  have : ∀ (l : List RecD) (st : List LectD × List ProbD), st.1.length ≤ 32 → (l.foldl (recM d s b m n) st).1.length ≤ 32 := by
    intro l
    induction l with
    | nil => exact fun st h => h
    | cons x r ih => exact fun st h => ih _ (recM_room_len d s b m n st x h)
  exact this l _ (by simp)
theorem recsM_probs (d s b m n : Int) (l : List RecD) : (recsM d s b m n l).2.length ≤ l.length := by
  unfold recsM
  have : ∀ (l : List RecD) (st : List LectD × List ProbD), (l.foldl (recM d s b m n) st).2.length ≤ st.2.length + l.length := by
    intro l
    induction l with
    | nil => exact fun st => Nat.le_refl _
    | cons x r ih =>
      intro st
      rw [List.foldl_cons]
      refine Nat.le_trans (ih _) ?_
      have : (recM d s b m n st x).2.length ≤ st.2.length + 1 := by
        unfold recM
        split
        · simp
        · split <;> simp
      simp
      omega
  simpa using this l ([], [])
theorem addM_codes (l : List LectD) (c : Str) : (addK 32 (codesL l) c).2 = addC l c ∧ (addK 32 (codesL l) c).1 = if addC l c = 0 then codesL l ++ [c] else codesL l := by
  unfold addK addC
  have e : (codesL l).length = l.length := by simp [codesL]
  rw [e]
  by_cases h : c ∈ codesL l
  · rw [if_pos h, if_pos h]; simp
  · rw [if_neg h, if_neg h]
    by_cases h2 : l.length = 32
    · rw [if_pos h2, if_pos h2]; simp
    · rw [if_neg h2, if_neg h2]; simp
end Go.Proofs.YtnpfmoalgphkcaaGreatDoor.S9
namespace Go.Proofs.YtnpfmoalgphkcaaGreatDoor
open Go Go.Proofs Go.RowKit Go.Lib
theorem results_ctt {fn : Func} {p u v : Tmp} {A : TypeId} (h : fn.results = #[.cell p A, .tmp u, .tmp v]) (tmps : Array Value) (P : Program) (w : World) (a : Addr) (va vc vd : Value)
    (ha : tmps.getD p undef = .pointer (some a)) (hc : tmps.getD u undef = vc) (hd : tmps.getD v undef = vd)
    (hla : (loadVar A a).run P w = .ok va w) : (results fn tmps).run P w = .ok (.tuple #[va, vc, vd]) w := by
  rw [Array.getD_eq_getD_getElem?] at ha hc hd
  simp only [results, h]
  simp [Result.andThen, ha, hc, hd, hla, asAddr]
theorem grown_of_below {w w' : World} (h : Below w.heap.size w w') : w.grownBy w' none := ⟨h.os, h.tape, h.output, h.size, fun k hk _ => h.block k hk⟩
theorem put_grown {W w2 : World} (hb : Below W.heap.size W w2) (R j : Nat) (v : Value) : W.grownBy (w2.setCell ⟨R, j, none⟩ v) (some R) :=
  ((grown_of_below hb).but (some R)).trans ⟨by simp [World.setCell], by simp [World.setCell], by simp [World.setCell], by simp [World.setCell], fun k _ hk => Below.heap_setCell w2 ⟨R, j, none⟩ v k (fun e => hk (by rw [show k = R from e]))⟩
def EntryOut (o : RoomD × Int × Int) (w : World) (e : Ending) (w' : World) : Prop :=
  (∃ q, e = .returned (.tuple #[roomV o.1 q, .int .i64 o.2.1, .int .i64 o.2.2]) ∧ RoomIn w' (fun k => w.heap.size ≤ k ∧ k < w'.heap.size) o.1 q) ∧ Below w.heap.size w w'
theorem RoomIn.past {W w2 : World} {R j : Nat} {v : Value} {r : RoomD} {q : Room5} (h : RoomIn W (fun k => R < k ∧ k < W.heap.size) r q) (hb : Below W.heap.size W w2) : RoomIn (w2.setCell ⟨R, j, none⟩ v) (fun k => R < k ∧ k < (w2.setCell ⟨R, j, none⟩ v).heap.size) r q := by
  have hg := put_grown hb R j v
  have hs := hg.size
  exact (h.kept (fun k hk => hg.block k hk.2 (fun e => by injection e; omega))).mono (fun k hk => ⟨hk.1, by omega⟩)
end Go.Proofs.YtnpfmoalgphkcaaGreatDoor
namespace Go.Proofs.YtnpfmoalgphkcaaGreatDoor.S9
open Go Go.Proofs Go.RowKit Go.Lib Go.Proofs.YtnpfmoalgphkcaaGreatDoor
def FieldOut (d s b m n : Int) (i : Nat) (x : Str) (r : LectD) (R : Nat) (w : World) (e : Ending) (w' : World) : Prop :=
  e = .returned (.int .i64 (setF d s b m n i x r).2) ∧ (∃ q : LectA, Box2 w' R (.string (ba (setF d s b m n i x r).1.1)) (.slice q.1 (setF d s b m n i x r).1.2.length q.2) ∧ LectIn w' (fun k => R < k ∧ k < w'.heap.size) (setF d s b m n i x r).1 q) ∧ w.grownBy w' (some R)
def EntryOut (o : LectD × Int × Int) (w : World) (e : Ending) (w' : World) : Prop :=
  (∃ q, e = .returned (.tuple #[lectV o.1 q, .int .i64 o.2.1, .int .i64 o.2.2]) ∧ LectIn w' (fun k => w.heap.size ≤ k ∧ k < w'.heap.size) o.1 q) ∧ Below w.heap.size w w'
theorem load2 {w : World} {k : Nat} {v0 v1 : Value} (h : w.cell? ⟨k, 0, none⟩ = some v0 ∧ w.cell? ⟨k, 1, none⟩ = some v1) : (loadVar 34 ⟨k, 0, none⟩).run Tryz.prog w = .ok (.agg #[v0, v1]) w := by
  obtain ⟨h0, h1⟩ := h
  simp [loadVar, go_sem, h0, h1]
theorem Box2.set {w : World} {B : Nat} {v0 v1 : Value} (h : Box2 w B v0 v1) : ∀ (u0 u1 : Value), Box2 ((w.setCell ⟨B, 0, none⟩ u0).setCell ⟨B, 1, none⟩ u1) B u0 u1 := fun u0 u1 => by
  have h1 := heap_setCell_same w B 0 _ _ u0 h.h
  have h2 := heap_setCell_same _ B 1 _ _ u1 h1
  refine ⟨?_⟩
  rw [h2]
  rfl
theorem set2_grown (w : World) (B : Nat) (u0 u1 : Value) : w.grownBy ((w.setCell ⟨B, 0, none⟩ u0).setCell ⟨B, 1, none⟩ u1) (some B) := by
  have g : ∀ (w : World) (o : Nat) (v : Value), w.grownBy (w.setCell ⟨B, o, none⟩ v) (some B) := fun w o v => ⟨by simp [World.setCell], by simp [World.setCell], by simp [World.setCell], by simp [World.setCell], fun k _ hk => Below.heap_setCell w ⟨B, o, none⟩ v k (fun e => hk (by rw [show k = B from e]))⟩
  exact (g w 0 u0).andThen (g _ 1 u1) (fun j hj => .inr hj)
theorem entry_end {w W : World} {a : Act} {r : LectD} {q : LectA} {c e : Int} {o : LectD × Int × Int} (hp : a.tmps.getD 6 undef = .pointer (some ⟨w.heap.size, 0, none⟩)) (hc : a.tmps.getD 7 undef = .int .i64 c) (he : a.tmps.getD 8 undef = .int .i64 e) (hd : a.defers = [])
    (hx : Box2 W w.heap.size (.string (ba r.1)) (.slice q.1 r.2.length q.2)) (hr : LectIn W (fun k => w.heap.size < k ∧ k < W.heap.size) r q) (hb : Below w.heap.size w W) (ho : o = (r, c, e)) :
    bodyPost Tryz.prog Tryz.f73 (EntryOut o w) Exit.ret a W := by
  subst ho
  refine bodyPost_ret (v := .tuple #[lectV r q, .int .i64 c, .int .i64 e]) (results_ctt rfl _ _ _ ⟨w.heap.size, 0, none⟩ _ _ _ hp hc he ?_) hd ⟨⟨q, rfl, hr.mono (fun k hk => ⟨Nat.le_of_lt hk.1, hk.2⟩)⟩, hb⟩
  unfold lectV
  exact load2 hx.cells
theorem Box2.put0 {w : World} {B : Nat} {v0 v1 : Value} (h : Box2 w B v0 v1) (u : Value) : Box2 (w.setCell ⟨B, 0, none⟩ u) B u v1 := ⟨by rw [heap_setCell_same w B 0 _ _ u h.h]; rfl⟩
theorem Box2.put1 {w : World} {B : Nat} {v0 v1 : Value} (h : Box2 w B v0 v1) (u : Value) : Box2 (w.setCell ⟨B, 1, none⟩ u) B v0 u := ⟨by rw [heap_setCell_same w B 1 _ _ u h.h]; rfl⟩
theorem two_put {w W : World} {r : LectD} {q : LectA} (hx : Box2 W w.heap.size (.string (ba r.1)) (.slice q.1 r.2.length q.2)) (hr : LectIn W (fun k => w.heap.size < k ∧ k < W.heap.size) r q) (hb : Below w.heap.size w W) {W5 : World}
    (h5 : W5 = (W.setCell ⟨w.heap.size, 0, none⟩ (.string (ba r.1))).setCell ⟨w.heap.size, 1, none⟩ (.slice q.1 r.2.length q.2)) :
    Box2 W5 w.heap.size (.string (ba r.1)) (.slice q.1 r.2.length q.2) ∧ LectIn W5 (fun k => w.heap.size < k ∧ k < W5.heap.size) r q ∧ Below w.heap.size w W5 := by
  have hx5 := Box2.set hx (.string (ba r.1)) (.slice q.1 r.2.length q.2)
  have hg := set2_grown W w.heap.size (.string (ba r.1)) (.slice q.1 r.2.length q.2)
  rw [← h5] at hx5 hg
  have hs := hg.size
  have hl := hx.lt
  exact ⟨hx5, (hr.kept (fun k hk => hg.block k hk.2 (fun e => by injection e; omega))).mono (fun k hk => ⟨hk.1, by omega⟩), hb.grown hg (by omega) (fun k e => by injection e; omega)⟩
theorem LectIn.past {W w2 : World} {R j : Nat} {v : Value} {r : LectD} {q : LectA} (h : LectIn W (fun k => R < k ∧ k < W.heap.size) r q) (hb : Below W.heap.size W w2) : LectIn (w2.setCell ⟨R, j, none⟩ v) (fun k => R < k ∧ k < (w2.setCell ⟨R, j, none⟩ v).heap.size) r q := by
  have hg := put_grown hb R j v
  have hs := hg.size
  exact (h.kept (fun k hk => hg.block k hk.2 (fun e => by injection e; omega))).mono (fun k hk => ⟨hk.1, by omega⟩)
end Go.Proofs.YtnpfmoalgphkcaaGreatDoor.S9
namespace Go.Proofs.YtnpfmoalgphkcaaGreatDoor
open Go Go.Proofs Go.RowKit Go.Lib
theorem own_lt {W : World} {B e z n : Nat} {v : Value} {xs : List Value} (h : W.ownsRow B e z v n xs) : ∀ k, v.ownBlock = some k → B ≤ k ∧ k < W.heap.size := World.ownsRow.lt h
theorem row_kindT {w : World} {B e z k : Nat} {v : Value} {xs : List Value} (h : w.ownsRow B e z v k xs) (g : Nat) (hg : v.ownBlock = some g) : ∃ c, w.heap[g]? = some (.cells c e (0, 0)) := by
  rcases h.2 with ⟨rfl, _⟩ | ⟨g', cap, cur, rfl, _, hh, _⟩
  · simp [Value.ownBlock] at hg
  · simp only [Value.ownBlock, Option.some.injEq] at hg
    subst hg
    exact ⟨cur, hh⟩
theorem kinds_ne {W : World} {B B' e e' z z' n n' : Nat} {v v' : Value} {xs xs' : List Value} (h : W.ownsRow B e z v n xs) (h' : W.ownsRow B' e' z' v' n' xs') (hne : e ≠ e') : v.ownBlock = none ∨ v.ownBlock ≠ v'.ownBlock := by
  cases hv : v.ownBlock with
  | none => exact .inl rfl
  | some g =>
    refine .inr fun e0 => ?_
    obtain ⟨c, hc⟩ := row_kindT h g hv
    obtain ⟨c', hc'⟩ := row_kindT h' g e0.symm
    rw [hc] at hc'
    injection hc' with h1
    injection h1 with _ h2
    exact hne h2
theorem four_new (w : World) (a b c d : Int) (T : TypeId) : ∀ (j : Nat) (u : Value), (timeVs (a, b, c, d))[j]? = some u → (w.alloc (.cells #[.int .i64 a, .int .i64 b, .int .i64 c, .int .i64 d] T)).cell? ((⟨w.heap.size, 0, none⟩ : Addr).add j) = some u := by
  intro j u h
  have k := Box4.new w a b c d T
  rw [Addr.add_lit]
  match j, h with
  | 0, h => exact k.c0.trans h
  | 1, h => exact k.c1.trans h
  | 2, h => exact k.c2.trans h
  | 3, h => exact k.c3.trans h
  | j + 4, h => simp [timeVs] at h
theorem times_one (t : TimeD) : ∀ u ∈ timeVs t, u.oneCell' = true := fun u hu => timeVals_one [t] u (by simpa [timeVals] using hu)
theorem splitL_len : ∀ l : Str, (S3.splitL l).length ≤ l.length + 1
  | [] => by simp [S3.splitL]
  | c :: r => by
    have ih := splitL_len r
    unfold S3.splitL
    split
    · simp; omega
    · simp
      omega
theorem readT_start (d s : Int) (n : Nat) (x : Str) (k : Nat) : (readT d s n x k).1.2.2.1 ≤ 9223372036854775807 := by
  have h : fromN (wSlots x) < 100 := smallN_lt _
  unfold readT
  split
  · split
    · show (fromN (wSlots x) : Int) - 1 ≤ _
      omega
    · show (0 : Int) ≤ _
      omega
  · show (0 : Int) ≤ _
    omega
theorem timeM_start (d s b m n : Int) (x : Str) : (timeM d s b m n x).1.2.2.1 ≤ 9223372036854775807 := by
  have z : (0 : Int) ≤ 9223372036854775807 := by omega
  unfold timeM
  split
  · unfold bodyT
    split
    · split
      · exact readT_start _ _ _ _ _
      · exact z
    · exact z
  · exact z
structure TInv (N : Nat) (w : World) (d s b m n : Int) (st : S3.St) (W : World) : Prop where
  below : Below N w W
  size : N + 8 ≤ W.heap.size
  g : W.heap[N]? = some (.cells #[.int .i64 d, .int .i64 s, .int .i64 b, .int .i64 m] 24 (0, 0))
  n1 : Boxed W (N + 1) 3 (.int .i64 n)
  r1 : Boxed W (N + 2) 32 (.slice none 0 0)
  r2 : Boxed W (N + 3) 28 (.int .i64 0)
  acc : ∃ v, Boxed W (N + 4) 32 v ∧ TimeRow W (N + 8) v (tgo d s b m n st.1 []).1
  v1 : Boxed W (N + 5) 9 (.string st.2)
  v2 : Boxed W (N + 6) 9 (.string ⟨#[59]⟩)
  v3 : Boxed W (N + 7) 3 (.int .i64 0)
  ok : (tgo d s b m n st.1 []).2 = 0
structure TErr (N : Nat) (w : World) (d s b m n : Int) (x : Str) (W : World) : Prop where
  below : Below N w W
  out : ∃ e : Int, (tgo d s b m n (S3.splitL x) []).2 = e ∧ e ≠ 0 ∧ Boxed W (N + 2) 32 (.slice none 0 0) ∧ Boxed W (N + 3) 28 (.int .i64 e)
section
variable {N : Nat} {w : World} {d s b m n : Int}
theorem TInv.kept {st : S3.St} {W W' : World} {row : Option Nat} (h : TInv N w d s b m n st W) (hN : N ≤ w.heap.size) (hg : W.grownBy W' row) (hr : ∀ r, row = some r → N + 8 ≤ r) (hrow : ∀ v, Boxed W (N + 4) 32 v → TimeRow W (N + 8) v (tgo d s b m n st.1 []).1 → v.ownBlock = none ∨ v.ownBlock ≠ row) : TInv N w d s b m n st W' := by
  have hne : ∀ B, B < N + 8 → some B ≠ row := fun B hB e => by have := hr B e.symm; omega
  obtain ⟨v, hv, hw⟩ := h.acc
  have hs := h.below.size
  have hz := h.size
  exact ⟨h.below.grown hg (by omega) (fun k e => by have := hr k e; omega), Nat.le_trans h.size hg.size, (hg.block N (by omega) (hne _ (by omega))).trans h.g, h.n1.kept hg (hne _ (by omega)), h.r1.kept hg (hne _ (by omega)), h.r2.kept hg (hne _ (by omega)),
    ⟨v, hv.kept hg (hne _ (by omega)), World.ownsRow.kept hw hg (hrow v hv hw)⟩, h.v1.kept hg (hne _ (by omega)), h.v2.kept hg (hne _ (by omega)), h.v3.kept hg (hne _ (by omega)), h.ok⟩
theorem TInv.own {B : Nat} (hN : N ≤ w.heap.size) (hB : N + 8 ≤ B) : OwnFrom B (TInv N w d s b m n) := by
  intro st W W' row h hg hr
  refine h.kept hN hg (fun r e => by have := (hr r e).1; omega) (fun v hv hw => ?_)
  rcases hw.2 with ⟨rfl, _⟩ | ⟨g, cap, cur, rfl, _, hgb, _⟩
  · exact .inl rfl
  · refine .inr fun e' => ?_
    obtain ⟨_, o, ho, hc⟩ := hr g (by simpa [Value.ownBlock] using e'.symm)
    rw [hgb] at ho; cases ho; cases hc
theorem TErr.own {B : Nat} {x : Str} (hN : N ≤ w.heap.size) (hB : N + 8 ≤ B) : OwnFrom B (fun (_ : Unit) W => TErr N w d s b m n x W) := by
  rintro _ W W' row ⟨hb, e, he, h0, h1, h2⟩ hg hr
  have hne : ∀ B, B < N + 8 → some B ≠ row := fun B' hB' e => by have := (hr B' e.symm).1; omega
  have hs := hb.size
  exact ⟨hb.grown hg (by omega) (fun k e => by have := (hr k e).1; omega), e, he, h0, h1.kept hg (hne _ (by omega)), h2.kept hg (hne _ (by omega))⟩
theorem TInv.turn {st : S3.St} {W : World} (h : TInv N w d s b m n st W) (hN : N ≤ w.heap.size) (r : ByteArray) : TInv N w d s b m n (st.1, r) (W.setCell ⟨N + 5, 0, none⟩ (.string r)) := by
  have hg := grownBy_setCell' W (N + 5) (.string r)
  have hne : ∀ B, B ≠ N + 5 → some B ≠ some (N + 5) := fun B hB e => hB (by injection e)
  obtain ⟨v, hv, hw⟩ := h.acc
  have hs := h.below.size
  have hz := h.size
  refine ⟨h.below.grown hg (by omega) (fun k e => by injection e; omega), Nat.le_trans h.size hg.size, (hg.block N (by omega) (hne _ (by omega))).trans h.g, h.n1.kept hg (hne _ (by omega)), h.r1.kept hg (hne _ (by omega)), h.r2.kept hg (hne _ (by omega)),
    ⟨v, hv.kept hg (hne _ (by omega)), World.ownsRow.kept hw hg ?_⟩, h.v1.set _, h.v2.kept hg (hne _ (by omega)), h.v3.kept hg (hne _ (by omega)), h.ok⟩
  refine .inr fun e => ?_
  have := World.ownsRow.lt hw _ e
  omega
theorem TInv.vars {st : S3.St} {W : World} (h : TInv N w d s b m n st W) : S3.SplitVars (N + 5) st.2 W := ⟨h.v1.cell, h.v1.frozen, h.v2.cell, h.v3.cell⟩
theorem TInv.step {pre : List Str} {r : ByteArray} {W W2 w3 : World} {v v' : Value} {L L' : List TimeD} {x : Str} (h : TInv N w d s b m n (pre, r) W) (hN : N ≤ w.heap.size) (hb : Below W.heap.size W W2) (hv : Boxed W (N + 4) 32 v)
    (hrow2 : TimeRow W2 (N + 8) v L) (hg : W2.grownBy w3 v.ownBlock) (hown : TimeRow w3 (N + 8) v' L') (hx : tgo d s b m n (pre ++ [x]) [] = (L', 0)) (B0 : Nat) :
    TInv N w d s b m n (pre ++ [x], r) (w3.setCell ⟨N + 4, 0, none⟩ v') ∧ KeepsFrom B0 W (w3.setCell ⟨N + 4, 0, none⟩ v') := by
  have hs := h.below.size
  have hlt := World.ownsRow.lt hrow2
  have hlt' := World.ownsRow.lt hown
  have hne : ∀ B, B < N + 8 → some B ≠ v.ownBlock := fun B hB e => by have := hlt B e.symm; omega
  have hg2 := grownBy_setCell' w3 (N + 4) v'
  have hne2 : ∀ B, B ≠ N + 4 → some B ≠ some (N + 4) := fun B hB e => hB (by injection e)
  have up : ∀ {B : Nat} {t : TypeId} {u : Value}, Boxed W B t u → B < N + 8 → B ≠ N + 4 → Boxed (w3.setCell ⟨N + 4, 0, none⟩ v') B t u := fun hu h6 h2 => ((S3.Boxed.under hu hb).kept hg (hne _ h6)).kept hg2 (hne2 _ h2)
  have hv3 : Boxed w3 (N + 4) 32 v := (S3.Boxed.under hv hb).kept hg (hne _ (by omega))
  have hsz := h.size
  have z2 := hb.size
  have z3 := hg.size
  have hb3 : Below N w (w3.setCell ⟨N + 4, 0, none⟩ v') := ((h.below.trans (hb.mono (by omega))).grown hg (by omega) (fun k hk => by have := hlt k hk; omega)).grown hg2 (by omega) (fun k e => by injection e; omega)
  refine ⟨⟨hb3, ?_, (hg2.block N (by omega) (hne2 _ (by omega))).trans ((hg.block N (by omega) (hne _ (by omega))).trans ((hb.block N (by omega)).trans h.g)), up h.n1 (by omega) (by omega), up h.r1 (by omega) (by omega), up h.r2 (by omega) (by omega), ⟨v', hv3.set v', ?_⟩, up h.v1 (by omega) (by omega), up h.v2 (by omega) (by omega), up h.v3 (by omega) (by omega), by rw [hx]⟩, ?_⟩
  · have := hg2.size; omega
  · rw [hx]
    exact World.ownsRow.kept hown hg2 (.inr fun e => by have := hlt' _ e; omega)
  · refine (((S3.keeps_below hb).trans (KeepsOthers.of_grownBy hg fun j o ej hj => ?_)).trans (KeepsOthers.setCell _ _ _)).from _
    obtain ⟨c, hc⟩ := row_kindT hrow2 j ej
    rw [hc] at hj
    cases hj
    rfl
end
theorem times_end {N D : Nat} {W : World} {u0 u1 v e : Value} (h1 : Boxed W (N + 2) 32 u0) (h2 : Boxed W (N + 3) 28 u1) (hD : N + 8 ≤ D) (hK : W.heap[D]? = some (.deferred (some []))) :
    ((W.setCell ⟨N + 2, 0, none⟩ v).setCell ⟨N + 3, 0, none⟩ e).heap[D]? = some (.deferred (some [])) ∧
    Boxed (((W.setCell ⟨N + 2, 0, none⟩ v).setCell ⟨N + 3, 0, none⟩ e).putObj D (.deferred none)) (N + 2) 32 v ∧ Boxed (((W.setCell ⟨N + 2, 0, none⟩ v).setCell ⟨N + 3, 0, none⟩ e).putObj D (.deferred none)) (N + 3) 28 e ∧
    Below N W (((W.setCell ⟨N + 2, 0, none⟩ v).setCell ⟨N + 3, 0, none⟩ e).putObj D (.deferred none)) ∧
    (∀ u k xs, W.ownsRow (N + 8) 26 4 u k xs → (((W.setCell ⟨N + 2, 0, none⟩ v).setCell ⟨N + 3, 0, none⟩ e).putObj D (.deferred none)).ownsRow (N + 8) 26 4 u k xs) := by
  have hg1 := grownBy_setCell' W (N + 2) v
  have hg2 := grownBy_setCell' (W.setCell ⟨N + 2, 0, none⟩ v) (N + 3) e
  have hg3 := grownBy_putObj' ((W.setCell ⟨N + 2, 0, none⟩ v).setCell ⟨N + 3, 0, none⟩ e) D (.deferred none)
  have hne : ∀ a b : Nat, a ≠ b → some a ≠ some b := fun a b h e => h (by injection e)
  have hlt := h2.lt
  have k0 : ((W.setCell ⟨N + 2, 0, none⟩ v).setCell ⟨N + 3, 0, none⟩ e).heap[D]? = some (.deferred (some [])) := (KeepsOthers.setCell _ _ _).same D _ ((KeepsOthers.setCell W _ _).same D _ hK rfl) rfl
  refine ⟨k0, ((h1.set v).kept hg2 (hne _ _ (by omega))).kept hg3 (hne _ _ (by omega)), ((h2.kept hg1 (hne _ _ (by omega))).set e).kept hg3 (hne _ _ (by omega)), ?_, ?_⟩
  · exact (((Below.refl N W).grown hg1 (by omega) (fun k e => by injection e; omega)).grown hg2 (by have := hg1.size; omega) (fun k e => by injection e; omega)).grown hg3 (by have := hg1.size; have := hg2.size; omega) (fun k e => by injection e; omega)
  · intro u k xs h
    have := h.lt
    exact ownsRow_putObj (World.ownsRow.kept (World.ownsRow.kept h hg1 (.inr fun e => by have := this _ e; omega)) hg2 (.inr fun e => by have := this _ e; omega)) _ k0 rfl
end Go.Proofs.YtnpfmoalgphkcaaGreatDoor
