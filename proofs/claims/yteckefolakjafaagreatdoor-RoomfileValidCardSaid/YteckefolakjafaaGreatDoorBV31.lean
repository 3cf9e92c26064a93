/-
  Reading rooms, as mathematics: fields, entries, lists of records. No program.
  Records out of lists of fields: Plain of the specification of records. Conditions: the lists lie in memory; no more than 1000000 of each, of at most 1000000 bytes each.
  What reading a field and an entry leave behind; a room in a block of its own. Conditions: as stated.
  Open of roomfile. Conditions: the room's times lie in memory; the times begin below 2^63.
-/
import Derived.Test.YteckefolakjafaaGreatDoorBV20
import Derived.Test.YteckefolakjafaaGreatDoorBV25
import Derived.Test.YteckefolakjafaaGreatDoorBV26
import Derived.Test.YteckefolakjafaaGreatDoorBV01
import Derived.Test.YteckefolakjafaaGreatDoorBV24
import Derived.Sort.EncStr
import Derived.Deep.RegionLaw
import Derived.Deep.AppendLies
import Derived.Maps.AppendAt
import Derived.Laws.ResultCell
import Derived.RegionTactic
import Derived.WalkKit
import Derived.Deep.QuietTactic
set_option linter.unusedVariables false
namespace Go.Proofs.YteckefolakjafaaGreatDoor
open Go Go.Proofs Go.RowKit Go.Lib

def sortS (l : List Str) : List Str := l.mergeSort fun x y => decide (x ≤ y)
theorem sortS_len (l : List Str) : (sortS l).length = l.length := by unfold sortS; exact List.length_mergeSort l
def seatsM (s : Str) : Int × Int := if numD 4 s = 0 then (0, 4) else ((numD 4 s : Nat), 0)
def featsM (s : Str) : List Str × Int := if (S3.listM s).2 ≠ 0 then ([], (S3.listM s).2) else if 8 < (S3.listM s).1.length then ([], 2) else (sortS (S3.listM s).1, 0)
def tgo (d s b m n : Int) : List Str → List TimeD → List TimeD × Int
  | [], acc => (acc, 0)
  | p :: ps, acc => if (timeM d s b m n p).2 ≠ 0 then ([], (timeM d s b m n p).2) else tgo d s b m n ps (acc ++ [(timeM d s b m n p).1])
def timesM (d s b m n : Int) (x : Str) : List TimeD × Int :=
  if x = [] then ([], 0) else if (tgo d s b m n (S3.splitL x) []).2 ≠ 0 then ([], (tgo d s b m n (S3.splitL x) []).2)
  else if 24 < (tgo d s b m n (S3.splitL x) []).1.length then ([], 2) else ((tgo d s b m n (S3.splitL x) []).1, 0)
theorem tgo_app (d s b m n : Int) : ∀ (ps : List Str) (acc : List TimeD) (qs : List Str), (tgo d s b m n ps acc).2 = 0 → tgo d s b m n (ps ++ qs) acc = tgo d s b m n qs (tgo d s b m n ps acc).1
  | [], acc, qs, _ => rfl
  | p :: ps, acc, qs, h => by
    simp only [tgo, List.cons_append] at h ⊢
    by_cases hc : (timeM d s b m n p).2 = 0
    · rw [if_neg (by simpa using hc)] at h ⊢
      rw [if_neg (by simpa using hc)]
      exact tgo_app d s b m n ps _ qs h
    · rw [if_pos hc] at h
      exact absurd h hc
theorem tgo_len (d s b m n : Int) : ∀ (ps : List Str) (acc : List TimeD), (tgo d s b m n ps acc).2 = 0 → (tgo d s b m n ps acc).1.length = acc.length + ps.length
  | [], acc, _ => by simp [tgo]
  | p :: ps, acc, h => by
    simp only [tgo] at h ⊢
    by_cases hc : (timeM d s b m n p).2 = 0
    · rw [if_neg (by simpa using hc)] at h ⊢
      rw [tgo_len d s b m n ps _ h]
      simp
      omega
    · rw [if_pos hc] at h
      exact absurd h hc
def setF (d s b m n : Int) (i : Nat) (x : Str) (r : RoomD) : RoomD × Int :=
  match i with
  | 0 => if S3.validC x = true then ((x, r.2), 0) else (([], r.2), 10)
  | 1 => if S3.validC x = true then ((r.1, x, r.2.2), 0) else ((r.1, [], r.2.2), 10)
  | 2 => ((r.1, r.2.1, (seatsM x).1, r.2.2.2), (seatsM x).2)
  | 3 => ((r.1, r.2.1, r.2.2.1, (featsM x).1, r.2.2.2.2), (featsM x).2)
  | 4 => ((r.1, r.2.1, r.2.2.1, r.2.2.2.1, (timesM d s b m n x).1), (timesM d s b m n x).2)
  | _ => (r, 0)
def zeroR : RoomD := ([], [], 0, [], [])
def efold (d s b m n : Int) : List FieldD → Nat → RoomD → RoomD × Int × Int
  | [], _, r => (r, 0, 0)
  | f :: fs, i, r => if (setF d s b m n i f.1 r).2 ≠ 0 then ((setF d s b m n i f.1 r).1, f.2.1, (setF d s b m n i f.1 r).2) else efold d s b m n fs (i + 1) (setF d s b m n i f.1 r).1
/-- A room out of the fields of a record; the column of the field in question; the error. -/
def entryM (d s b m n : Int) (fs : List FieldD) : RoomD × Int × Int := if fs.length ≠ 5 then (zeroR, 0, 9) else efold d s b m n fs 0 zeroR
theorem efold_step (d s b m n : Int) (fs : List FieldD) (i : Nat) (h : i < fs.length) (r : RoomD) :
    efold d s b m n (fs.drop i) i r = if (setF d s b m n i fs[i].1 r).2 ≠ 0 then ((setF d s b m n i fs[i].1 r).1, fs[i].2.1, (setF d s b m n i fs[i].1 r).2) else efold d s b m n (fs.drop (i + 1)) (i + 1) (setF d s b m n i fs[i].1 r).1 := by
  rw [List.drop_eq_getElem_cons h, efold]
def addC (l : List RoomD) (c : Str) : Int := if c ∈ codesR l then 11 else if l.length = 16 then 2 else 0
/-- One record more. -/
def recM (d s b m n : Int) (st : List RoomD × List ProbD) (x : RecD) : List RoomD × List ProbD :=
  if (entryM d s b m n x.2).2.2 ≠ 0 then (st.1, st.2 ++ [(x.1, (entryM d s b m n x.2).2.1, (entryM d s b m n x.2).2.2)])
  else if addC st.1 (entryM d s b m n x.2).1.1 ≠ 0 then (st.1, st.2 ++ [(x.1, (entryM d s b m n x.2).2.1, addC st.1 (entryM d s b m n x.2).1.1)])
  else (st.1 ++ [(entryM d s b m n x.2).1], st.2)
def recsM (d s b m n : Int) (l : List RecD) : List RoomD × List ProbD := l.foldl (recM d s b m n) ([], [])
def readM (d s b m n : Int) (l : List RecD) : List RoomD × List ProbD := if frameB d s b m n = true then recsM d s b m n l else ([], [(0, 0, 1)])
theorem recsM_take (d s b m n : Int) (l : List RecD) (i : Nat) (h : i < l.length) : recsM d s b m n (l.take (i + 1)) = recM d s b m n (recsM d s b m n (l.take i)) l[i] := by
  unfold recsM
  rw [List.take_succ_eq_append_getElem h, List.foldl_append]
  rfl
theorem recM_room_len (d s b m n : Int) (st : List RoomD × List ProbD) (x : RecD) (h : st.1.length ≤ 16) : (recM d s b m n st x).1.length ≤ 16 := by
  unfold recM
  split
  · exact h
  · split
    · exact h
    · rename_i h2
      unfold addC at h2
      by_cases h3 : (entryM d s b m n x.2).1.1 ∈ codesR st.1
      · rw [if_pos h3] at h2; simp at h2
      · rw [if_neg h3] at h2
        by_cases h4 : st.1.length = 16
        · rw [if_pos h4] at h2; simp at h2
        · simp; omega
theorem recsM_len (d s b m n : Int) (l : List RecD) : (recsM d s b m n l).1.length ≤ 16 := by
  unfold recsM
  have : ∀ (l : List RecD) (st : List RoomD × List ProbD), st.1.length ≤ 16 → (l.foldl (recM d s b m n) st).1.length ≤ 16 := by
    intro l
    induction l with
    | nil => exact fun st h => h
    | cons x r ih => exact fun st h => ih _ (recM_room_len d s b m n st x h)
  exact this l _ (by simp)
theorem recsM_probs (d s b m n : Int) (l : List RecD) : (recsM d s b m n l).2.length ≤ l.length := by
  unfold recsM
  have : ∀ (l : List RecD) (st : List RoomD × List ProbD), (l.foldl (recM d s b m n) st).2.length ≤ st.2.length + l.length := by
    intro l
    induction l with
    | nil => exact fun st => Nat.le_refl _
    | cons x r ih =>
      intro st
      rw [List.foldl_cons]
      refine Nat.le_trans (ih _) ?_
      have : (recM d s b m n st x).2.length ≤ st.2.length + 1 := by
        unfold recM
        split
        · simp
        · split <;> simp
      simp
      omega
  simpa using this l ([], [])
/-- The codes of the rooms that were read, in the map's words. -/
theorem addM_codes (l : List RoomD) (c : Str) : (addM (codesR l) c).2 = addC l c ∧ (addM (codesR l) c).1 = if addC l c = 0 then codesR l ++ [c] else codesR l := by
  unfold addM addC
  have e : (codesR l).length = l.length := by simp [codesR]
  rw [e]
  by_cases h : c ∈ codesR l
  · rw [if_pos h, if_pos h]; simp
  · rw [if_neg h, if_neg h]
    by_cases h2 : l.length = 16
    · rw [if_pos h2, if_pos h2]; simp
    · rw [if_neg h2, if_neg h2]; simp
end Go.Proofs.YteckefolakjafaaGreatDoor

set_option linter.unusedVariables false
namespace Go.Proofs.YteckefolakjafaaGreatDoor
open Go Go.Proofs Go.RowKit Go.Lib

/-- The fields of a record that stands without quotes: each with the column at which it begins. -/
def colsM : Int → List Str → List FieldD
  | _, [] => []
  | c, s :: r => (s, c, false) :: colsM (c + ((s.length : Int) + 1)) r
def colAt : Int → List Str → Int
  | c, [] => c
  | c, s :: r => colAt (c + ((s.length : Int) + 1)) r
theorem colsM_app : ∀ (c : Int) (a b : List Str), colsM c (a ++ b) = colsM c a ++ colsM (colAt c a) b
  | c, [], b => rfl
  | c, s :: r, b => by simp [colsM, colAt, colsM_app _ r b]
theorem colAt_snoc : ∀ (c : Int) (a : List Str) (s : Str), colAt c (a ++ [s]) = colAt c a + ((s.length : Int) + 1)
  | c, [], s => rfl
  | c, t :: r, s => by simp [colAt, colAt_snoc _ r s]
theorem colsM_len : ∀ (c : Int) (a : List Str), (colsM c a).length = a.length
  | c, [] => rfl
  | c, s :: r => by simp [colsM, colsM_len _ r]
theorem colAt_range : ∀ (c : Int) (a : List Str), (∀ s ∈ a, s.length ≤ 1000000) → c ≤ colAt c a ∧ colAt c a ≤ c + a.length * 1000001
  | c, [], _ => by simp [colAt]
  | c, s :: r, h => by
    have h1 := h s (by simp)
    have h2 := colAt_range (c + ((s.length : Int) + 1)) r (fun t ht => h t (by simp [ht]))
    simp only [colAt, List.length_cons]
    omega
def plainM (l : List (List Str)) : List RecD := l.mapIdx fun i r => ((i : Int) + 1, colsM 1 r)
theorem plainM_len (l : List (List Str)) : (plainM l).length = l.length := by simp [plainM]
theorem plainM_take (l : List (List Str)) (i : Nat) (h : i < l.length) : plainM (l.take (i + 1)) = plainM (l.take i) ++ [((i : Int) + 1, colsM 1 l[i])] := by
  rw [List.take_succ_eq_append_getElem h]
  unfold plainM
  rw [List.mapIdx_append]
  congr 1
  simp [Nat.min_eq_left (Nat.le_of_lt h)]
theorem infoField : (Tryz.prog.info? 81).map (fun i => (i.zero, i.size, i.bytes)) = some (some (.agg #[.string ⟨#[]⟩, .int .i64 0, .bool false]), 3, 32) := by kernel_rfl
theorem infoRec : (Tryz.prog.info? 36).map (fun i => (i.zero, i.size, i.bytes)) = some (some (.agg #[.int .i64 0, .slice none 0 0]), 2, 32) := by kernel_rfl
def fieldVals (l : List FieldD) : List Value := l.flatMap fieldVs
theorem fieldVals_app (a b : List FieldD) : fieldVals (a ++ b) = fieldVals a ++ fieldVals b := by simp [fieldVals]
theorem fieldVals_get : ∀ (l : List FieldD) (j : Nat) (t : FieldD), l[j]? = some t → ∀ (i : Nat) (v : Value), (fieldVs t)[i]? = some v → (fieldVals l)[j * 3 + i]? = some v
  | [], j, t, h, _, _, _ => by simp at h
  | a :: r, 0, t, h, i, v, hv => by
    simp at h
    subst h
    have hi : i < 3 := (List.getElem?_eq_some_iff.1 hv).1
    unfold fieldVals
    rw [List.flatMap_cons, List.getElem?_append_left (by show _ < 3; omega)]
    simpa using hv
  | a :: r, j + 1, t, h, i, v, hv => by
    have := fieldVals_get r j t (by simpa using h) i v hv
    unfold fieldVals at this ⊢
    rw [List.flatMap_cons, List.getElem?_append_right (by show 3 ≤ _; omega)]
    show (List.flatMap fieldVs r)[(j + 1) * 3 + i - 3]? = _
    rw [show (j + 1) * 3 + i - 3 = j * 3 + i by omega]
    exact this
def FieldRow (w : World) (B : Nat) (v : Value) (l : List FieldD) : Prop := w.ownsRow B 81 3 v l.length (fieldVals l)
theorem FieldRow.fieldsIn {w : World} {B : Nat} {v : Value} {l : List FieldD} (h : FieldRow w B v l) : ∃ A c, v = .slice A l.length c ∧ l.length ≤ c ∧ c ≤ 9223372036854775807 ∧ FieldsIn w (fun b => v.ownBlock = some b) A l := by
  have h' := h
  rcases h.2 with ⟨hv, h0⟩ | ⟨g, cap, cur, hv, hB, hg, h1, h2, _⟩
  · have hl : l = [] := List.eq_nil_of_length_eq_zero h0
    subst hl
    exact ⟨none, 0, hv, Nat.le_refl _, by omega, .inl rfl⟩
  · refine ⟨_, cap, hv, h1, by unfold maxLen at h2; omega, .inr ⟨g, 0, rfl, by rw [hv]; rfl, fun j t hj i v' hv' => ?_⟩⟩
    have := World.ownsRow.cells h' (g := g) (by rw [hv]; rfl) (j * 3 + i) v' (fieldVals_get l j t hj i v' hv')
    rw [Addr.add_lit] at this
    rw [← Nat.add_assoc] at this
    exact this
abbrev RecA := RecD × (Option Addr × Nat)
def recVs (p : RecA) : List Value := [.int .i64 p.1.1, .slice p.2.1 p.1.2.length p.2.2]
def recVals (l : List RecA) : List Value := l.flatMap recVs
theorem recVals_app (a b : List RecA) : recVals (a ++ b) = recVals a ++ recVals b := by simp [recVals]
theorem recVals_len : ∀ l : List RecA, (recVals l).length = l.length * 2
  | [] => rfl
  | t :: r => by
    have := recVals_len r
    unfold recVals at this ⊢
    rw [List.flatMap_cons, List.length_append, this, List.length_cons]
    show 2 + _ = _
    omega
theorem recVals_get : ∀ (l : List RecA) (j : Nat) (t : RecA), l[j]? = some t → ∀ (i : Nat) (v : Value), (recVs t)[i]? = some v → (recVals l)[j * 2 + i]? = some v
  | [], j, t, h, _, _, _ => by simp at h
  | a :: r, 0, t, h, i, v, hv => by
    simp at h
    subst h
    have hi : i < 2 := (List.getElem?_eq_some_iff.1 hv).1
    unfold recVals
    rw [List.flatMap_cons, List.getElem?_append_left (by show _ < 2; omega)]
    simpa using hv
  | a :: r, j + 1, t, h, i, v, hv => by
    have := recVals_get r j t (by simpa using h) i v hv
    unfold recVals at this ⊢
    rw [List.flatMap_cons, List.getElem?_append_right (by show 2 ≤ _; omega)]
    show (List.flatMap recVs r)[(j + 1) * 2 + i - 2]? = _
    rw [show (j + 1) * 2 + i - 2 = j * 2 + i by omega]
    exact this
/-- A slice of records that the call owns; what they lead to lies in the call's own blocks, and not in the slice's. -/
def RecRow (w : World) (B : Nat) (v : Value) (l : List RecD) : Prop := ∃ L : List RecA, L.map (·.1) = l ∧ w.ownsRow B 36 2 v L.length (recVals L) ∧
  ∀ p ∈ L, FieldsIn w (fun b => B ≤ b ∧ b < w.heap.size ∧ v.ownBlock ≠ some b) p.2.1 p.1.2 ∧ p.1.2.length ≤ p.2.2 ∧ p.2.2 ≤ 9223372036854775807
theorem RecRow.recsIn {w : World} {B : Nat} {v : Value} {l : List RecD} (h : RecRow w B v l) : ∃ A c, v = .slice A l.length c ∧ l.length ≤ c ∧ c ≤ 9223372036854775807 ∧ RecsIn w (fun b => B ≤ b ∧ b < w.heap.size) A l := by
  obtain ⟨L, rfl, h, hL⟩ := h
  have h' := h
  have hn : (L.map (·.1)).length = L.length := List.length_map _
  rcases h.2 with ⟨hv, h0⟩ | ⟨g, cap, cur, hv, hB, hg, h1, h2, _⟩
  · have hl : L = [] := List.eq_nil_of_length_eq_zero h0
    subst hl
    exact ⟨none, 0, by rw [hv]; rfl, Nat.le_refl _, by omega, .inl rfl⟩
  · refine ⟨_, cap, by rw [hn]; exact hv, by rw [hn]; exact h1, by unfold maxLen at h2; omega, .inr ⟨g, 0, rfl, ⟨hB, (Array.getElem?_eq_some_iff.1 hg).1⟩, fun j r hj => ?_⟩⟩
    rw [List.getElem?_map] at hj
    obtain ⟨p, hp, rfl⟩ := Option.map_eq_some_iff.1 hj
    obtain ⟨f1, f2, f3⟩ := hL p (List.mem_of_getElem? hp)
    refine ⟨p.2.1, p.2.2, f1.mono (fun b hb => ⟨hb.1, hb.2.1⟩), f2, f3, ?_, ?_⟩
    · have := World.ownsRow.cells h' (g := g) (by rw [hv]; rfl) (j * 2 + 0) _ (recVals_get L j p hp 0 _ rfl)
      rw [Addr.add_lit] at this
      rw [← Nat.add_assoc] at this
      exact this
    · have := World.ownsRow.cells h' (g := g) (by rw [hv]; rfl) (j * 2 + 1) _ (recVals_get L j p hp 1 _ rfl)
      rw [Addr.add_lit] at this
      rw [← Nat.add_assoc] at this
      exact this
end Go.Proofs.YteckefolakjafaaGreatDoor

set_option linter.unusedVariables false
namespace Go.Proofs.YteckefolakjafaaGreatDoor
open Go Go.Proofs Go.RowKit Go.Lib

/-- What a call that reads field i of the room in block R leaves behind. -/
def FieldOut (d s b m n : Int) (i : Nat) (x : Str) (r : RoomD) (R : Nat) (w : World) (e : Ending) (w' : World) : Prop :=
  e = .returned (.int .i64 (setF d s b m n i x r).2) ∧ (∃ q, Box5 w' R (.string (ba (setF d s b m n i x r).1.1)) (.string (ba (setF d s b m n i x r).1.2.1)) (.int .i64 (setF d s b m n i x r).1.2.2.1) (.slice q.a1 (setF d s b m n i x r).1.2.2.2.1.length q.c1) (.slice q.a2 (setF d s b m n i x r).1.2.2.2.2.length q.c2) ∧ RoomIn w' (fun k => R < k ∧ k < w'.heap.size) (setF d s b m n i x r).1 q) ∧ w.grownBy w' (some R)
/-- What a call that reads an entry leaves behind. -/
def EntryOut (o : RoomD × Int × Int) (w : World) (e : Ending) (w' : World) : Prop :=
  (∃ q, e = .returned (.tuple #[roomV o.1 q, .int .i64 o.2.1, .int .i64 o.2.2]) ∧ RoomIn w' (fun k => w.heap.size ≤ k ∧ k < w'.heap.size) o.1 q) ∧ Below w.heap.size w w'
theorem load5 {w : World} {k : Nat} {v0 v1 v2 v3 v4 : Value} (h : Cells5 w k 0 v0 v1 v2 v3 v4) : (loadVar 46 ⟨k, 0, none⟩).run Tryz.prog w = .ok (.agg #[v0, v1, v2, v3, v4]) w := by
  obtain ⟨h0, h1, h2, h3, h4⟩ := h
  simp [loadVar, go_sem, h0, h1, h2, h3, h4]
theorem results_ctt {fn : Func} {p u v : Tmp} {A : TypeId} (h : fn.results = #[.cell p A, .tmp u, .tmp v]) (tmps : Array Value) (P : Program) (w : World) (a : Addr) (va vc vd : Value)
    (ha : tmps.getD p undef = .pointer (some a)) (hc : tmps.getD u undef = vc) (hd : tmps.getD v undef = vd)
    (hla : (loadVar A a).run P w = .ok va w) : (results fn tmps).run P w = .ok (.tuple #[va, vc, vd]) w := by
  rw [Array.getD_eq_getD_getElem?] at ha hc hd
  simp only [results, h]
  simp [Result.andThen, ha, hc, hd, hla, asAddr]
theorem Box5.set {w : World} {B : Nat} {v0 v1 v2 v3 v4 : Value} (h : Box5 w B v0 v1 v2 v3 v4) : ∀ (u0 u1 u2 u3 u4 : Value), Box5 (((((w.setCell ⟨B, 0, none⟩ u0).setCell ⟨B, 1, none⟩ u1).setCell ⟨B, 2, none⟩ u2).setCell ⟨B, 3, none⟩ u3).setCell ⟨B, 4, none⟩ u4) B u0 u1 u2 u3 u4 := fun u0 u1 u2 u3 u4 => by
  have h1 := heap_setCell_same w B 0 _ _ u0 h.h
  have h2 := heap_setCell_same _ B 1 _ _ u1 h1
  have h3 := heap_setCell_same _ B 2 _ _ u2 h2
  have h4 := heap_setCell_same _ B 3 _ _ u3 h3
  have h5 := heap_setCell_same _ B 4 _ _ u4 h4
  refine ⟨?_⟩
  rw [h5]
  rfl
theorem set5_grown (w : World) (B : Nat) (u0 u1 u2 u3 u4 : Value) : w.grownBy (((((w.setCell ⟨B, 0, none⟩ u0).setCell ⟨B, 1, none⟩ u1).setCell ⟨B, 2, none⟩ u2).setCell ⟨B, 3, none⟩ u3).setCell ⟨B, 4, none⟩ u4) (some B) := by
  have g : ∀ (w : World) (o : Nat) (v : Value), w.grownBy (w.setCell ⟨B, o, none⟩ v) (some B) := fun w o v => ⟨by simp [World.setCell], by simp [World.setCell], by simp [World.setCell], by simp [World.setCell], fun k _ hk => Below.heap_setCell w ⟨B, o, none⟩ v k (fun e => hk (by rw [show k = B from e]))⟩
  exact ((((g w 0 u0).andThen (g _ 1 u1) (fun j hj => .inr hj)).andThen (g _ 2 u2) (fun j hj => .inr hj)).andThen (g _ 3 u3) (fun j hj => .inr hj)).andThen (g _ 4 u4) (fun j hj => .inr hj)
/-- All results stored. -/
theorem entry_end {w W : World} {a : Act} {r : RoomD} {q : Room5} {c e : Int} {o : RoomD × Int × Int} (hp : a.tmps.getD 6 undef = .pointer (some ⟨w.heap.size, 0, none⟩)) (hc : a.tmps.getD 7 undef = .int .i64 c) (he : a.tmps.getD 8 undef = .int .i64 e) (hd : a.defers = [])
    (hx : Box5 W w.heap.size (.string (ba r.1)) (.string (ba r.2.1)) (.int .i64 r.2.2.1) (.slice q.a1 r.2.2.2.1.length q.c1) (.slice q.a2 r.2.2.2.2.length q.c2)) (hr : RoomIn W (fun k => w.heap.size < k ∧ k < W.heap.size) r q) (hb : Below w.heap.size w W) (ho : o = (r, c, e)) :
    bodyPost Tryz.prog Tryz.f59 (EntryOut o w) Exit.ret a W := by
  subst ho
  refine bodyPost_ret (v := .tuple #[roomV r q, .int .i64 c, .int .i64 e]) (results_ctt rfl _ _ _ ⟨w.heap.size, 0, none⟩ _ _ _ hp hc he ?_) hd ⟨⟨q, rfl, hr.mono (fun k hk => ⟨Nat.le_of_lt hk.1, hk.2⟩)⟩, hb⟩
  unfold roomV
  exact load5 hx.cells

theorem grown_of_below {w w' : World} (h : Below w.heap.size w w') : w.grownBy w' none := ⟨h.os, h.tape, h.output, h.size, fun k hk _ => h.block k hk⟩
theorem put_grown {W w2 : World} (hb : Below W.heap.size W w2) (R j : Nat) (v : Value) : W.grownBy (w2.setCell ⟨R, j, none⟩ v) (some R) :=
  ((grown_of_below hb).but (some R)).trans ⟨by simp [World.setCell], by simp [World.setCell], by simp [World.setCell], by simp [World.setCell], fun k _ hk => Below.heap_setCell w2 ⟨R, j, none⟩ v k (fun e => hk (by rw [show k = R from e]))⟩
theorem Box5.put0 {w : World} {B : Nat} {v0 v1 v2 v3 v4 : Value} (h : Box5 w B v0 v1 v2 v3 v4) (u : Value) : Box5 (w.setCell ⟨B, 0, none⟩ u) B u v1 v2 v3 v4 := ⟨by rw [heap_setCell_same w B 0 _ _ u h.h]; rfl⟩
theorem Box5.put1 {w : World} {B : Nat} {v0 v1 v2 v3 v4 : Value} (h : Box5 w B v0 v1 v2 v3 v4) (u : Value) : Box5 (w.setCell ⟨B, 1, none⟩ u) B v0 u v2 v3 v4 := ⟨by rw [heap_setCell_same w B 1 _ _ u h.h]; rfl⟩
theorem Box5.put2 {w : World} {B : Nat} {v0 v1 v2 v3 v4 : Value} (h : Box5 w B v0 v1 v2 v3 v4) (u : Value) : Box5 (w.setCell ⟨B, 2, none⟩ u) B v0 v1 u v3 v4 := ⟨by rw [heap_setCell_same w B 2 _ _ u h.h]; rfl⟩
theorem Box5.put3 {w : World} {B : Nat} {v0 v1 v2 v3 v4 : Value} (h : Box5 w B v0 v1 v2 v3 v4) (u : Value) : Box5 (w.setCell ⟨B, 3, none⟩ u) B v0 v1 v2 u v4 := ⟨by rw [heap_setCell_same w B 3 _ _ u h.h]; rfl⟩
theorem Box5.put4 {w : World} {B : Nat} {v0 v1 v2 v3 v4 : Value} (h : Box5 w B v0 v1 v2 v3 v4) (u : Value) : Box5 (w.setCell ⟨B, 4, none⟩ u) B v0 v1 v2 v3 u := ⟨by rw [heap_setCell_same w B 4 _ _ u h.h]; rfl⟩
theorem five_put {w W : World} {r : RoomD} {q : Room5} (hx : Box5 W w.heap.size (.string (ba r.1)) (.string (ba r.2.1)) (.int .i64 r.2.2.1) (.slice q.a1 r.2.2.2.1.length q.c1) (.slice q.a2 r.2.2.2.2.length q.c2)) (hr : RoomIn W (fun k => w.heap.size < k ∧ k < W.heap.size) r q) (hb : Below w.heap.size w W) {W5 : World}
    (h5 : W5 = (((((W.setCell ⟨w.heap.size, 0, none⟩ (.string (ba r.1))).setCell ⟨w.heap.size, 1, none⟩ (.string (ba r.2.1))).setCell ⟨w.heap.size, 2, none⟩ (.int .i64 r.2.2.1)).setCell ⟨w.heap.size, 3, none⟩ (.slice q.a1 r.2.2.2.1.length q.c1)).setCell ⟨w.heap.size, 4, none⟩ (.slice q.a2 r.2.2.2.2.length q.c2))) :
    Box5 W5 w.heap.size (.string (ba r.1)) (.string (ba r.2.1)) (.int .i64 r.2.2.1) (.slice q.a1 r.2.2.2.1.length q.c1) (.slice q.a2 r.2.2.2.2.length q.c2) ∧ RoomIn W5 (fun k => w.heap.size < k ∧ k < W5.heap.size) r q ∧ Below w.heap.size w W5 := by
  have hx5 := hx.set (.string (ba r.1)) (.string (ba r.2.1)) (.int .i64 r.2.2.1) (.slice q.a1 r.2.2.2.1.length q.c1) (.slice q.a2 r.2.2.2.2.length q.c2)
  have hg := set5_grown W w.heap.size (.string (ba r.1)) (.string (ba r.2.1)) (.int .i64 r.2.2.1) (.slice q.a1 r.2.2.2.1.length q.c1) (.slice q.a2 r.2.2.2.2.length q.c2)
  rw [← h5] at hx5 hg
  have hs := hg.size
  have hl := hx.lt
  exact ⟨hx5, (hr.kept (fun k hk => hg.block k hk.2 (fun e => by injection e; omega))).mono (fun k hk => ⟨hk.1, by omega⟩), hb.grown hg (by omega) (fun k e => by injection e; omega)⟩
theorem RoomIn.past {W w2 : World} {R j : Nat} {v : Value} {r : RoomD} {q : Room5} (h : RoomIn W (fun k => R < k ∧ k < W.heap.size) r q) (hb : Below W.heap.size W w2) : RoomIn (w2.setCell ⟨R, j, none⟩ v) (fun k => R < k ∧ k < (w2.setCell ⟨R, j, none⟩ v).heap.size) r q := by
  have hg := put_grown hb R j v
  have hs := hg.size
  exact (h.kept (fun k hk => hg.block k hk.2 (fun e => by injection e; omega))).mono (fun k hk => ⟨hk.1, by omega⟩)
end Go.Proofs.YteckefolakjafaaGreatDoor

set_option linter.unusedVariables false
namespace Go.Proofs.YteckefolakjafaaGreatDoor
open Go Go.Proofs Go.RowKit Go.Lib

/-- Whether one of the times overlaps t. -/
def openM (r : RoomD) (t : TimeD) : Bool := !(r.2.2.2.2.any fun x => overB x.1 x.2.1 x.2.2.1 x.2.2.2 t.1 t.2.1 t.2.2.1 t.2.2.2)
set_option maxHeartbeats 2000000 in
theorem pred_open (k' y' t' l' : Int) (ht' : t' ≤ 9223372036854775807) (G : Nat) (w : World) (hG : Box4 w G k' y' t' l') :
    PredBelow Tryz.prog 41 #[.pointer (some ⟨G, 0, none⟩)] (fun x : TimeF => .agg (encT x).toArray) (fun x => overB x.1.1 x.1.2.1 x.1.2.2.1 x.1.2.2.2 k' y' t' l') w := fun W x hb => by
  obtain ⟨⟨k, y, t, l⟩, ht⟩ := x
  have cF := fun w => overlap_any k y t l k' y' t' l' ht ht' w
  unfold Says at cF
  have hGl := hG.lt
  have hG' := hG.next hb hGl
  obtain ⟨x0, x1, x2, x3, _⟩ := hG'
  have hsW := hb.size
  have hGW : G ≠ W.heap.size := by omega
  have hGL : G < W.heap.size := by omega
  show Calls Tryz.prog 41 #[.agg #[.int .i64 k, .int .i64 y, .int .i64 t, .int .i64 l], .pointer (some ⟨G, 0, none⟩)] W _
  show Calls _ _ _ _ fun e w' => e = .returned (.bool (overB k y t l k' y' t' l')) ∧ _
  obtain ⟨F, hF⟩ : ∃ F, overB k y t l k' y' t' l' = F := ⟨_, rfl⟩
  rw [hF] at cF ⊢
  have HB := hid (hb.alloc hb.size (.cells #[.int .i64 k, .int .i64 y, .int .i64 t, .int .i64 l] 55))
  clear hb hF hG
  go_enter Tryz.func41, Tryz.ntmps41
  go_wp2_with fail
  refine (cF _).mono ?_
  rintro e w' ⟨rfl, hb2⟩
  have HB2 := hid (HB.out.trans (hb2.mono HB.out.size))
  clear hb2
  go_wp2
  go_ret
  exact ⟨rfl, HB2.out⟩
set_option maxHeartbeats 8000000 in
set_option maxRecDepth 100000 in
theorem open_any (r : RoomD) (q : Room5) (t : TimeD) (ht : t.2.2.1 ≤ 9223372036854775807) (w : World) (h : RoomIn w (fun b => b < w.heap.size) r q) :
    Calls Tryz.prog 20 #[roomV r q, timeV t] w (Says (.bool (openM r t)) w) := by
  obtain ⟨code, bld, seats, fs, ts⟩ := r
  obtain ⟨A1, c1, A2, c2⟩ := q
  obtain ⟨k', y', t', l'⟩ := t
  obtain ⟨hf, htm, hf1, hf2, ht1, ht2⟩ := h
  dsimp only at hf htm hf1 hf2 ht1 ht2 ht
  unfold roomV timeV Says openM
  dsimp only
  have hx := Box5.new w (.string (ba code)) (.string (ba bld)) (.int .i64 seats) (.slice A1 fs.length c1) (.slice A2 ts.length c2)
  have hb1 := (Below.refl w.heap.size w).alloc (Nat.le_refl _) (.cells #[.string (ba code), .string (ba bld), .int .i64 seats, .slice A1 fs.length c1, .slice A2 ts.length c2] 46)
  have hs1 : (w.alloc (.cells #[.string (ba code), .string (ba bld), .int .i64 seats, .slice A1 fs.length c1, .slice A2 ts.length c2] 46)).heap.size = w.heap.size + 1 := by simp
  obtain ⟨w1, hw1⟩ : ∃ w1, w.alloc (.cells #[.string (ba code), .string (ba bld), .int .i64 seats, .slice A1 fs.length c1, .slice A2 ts.length c2] 46) = w1 := ⟨_, rfl⟩
  rw [hw1] at hx hb1 hs1
  have hG := Box4.new w1 k' y' t' l' 55
  have hb2 := (Below.refl w1.heap.size w1).alloc (Nat.le_refl _) (.cells #[.int .i64 k', .int .i64 y', .int .i64 t', .int .i64 l'] 55)
  obtain ⟨w2, hw2⟩ : ∃ w2, w1.alloc (.cells #[.int .i64 k', .int .i64 y', .int .i64 t', .int .i64 l'] 55) = w2 := ⟨_, rfl⟩
  rw [hw2] at hG hb2
  have hb := hb1.trans (hb2.mono (by omega))
  have cT := anyT_any (fun x => overB x.1 x.2.1 x.2.2.1 x.2.2.2 k' y' t' l') 41 #[.pointer (some ⟨w1.heap.size, 0, none⟩)] egOpen A2 ts c2 w.heap.size w2 hb.size (pred_open k' y' t' l' ht _ w2 hG) (htm.below hb) ht1 ht2
  obtain ⟨R, hR⟩ : ∃ R, (ts.any fun x => overB x.1 x.2.1 x.2.2.1 x.2.2.2 k' y' t' l') = R := ⟨_, rfl⟩
  rw [hR] at cT ⊢
  obtain ⟨y0, y1, y2, y3, y4⟩ := (hx.below hb2 hx.lt).cells
  rw [hs1] at cT
  have CT := hid cT
  have HB := hid hb
  clear cT hb hG hb1 hb2 hx hf htm hf1 hf2 ht1 ht2 hR
  go_enter Tryz.func20, Tryz.ntmps20
  go_wp2_with fail
  (try rw [hw1])
  (try rw [hw2])
  refine CT.out.mono ?_
  rintro e w' ⟨rfl, hb3⟩
  have HB3 := hid (HB.out.trans (hb3.mono HB.out.size))
  clear hb3
  cases R with
  | true =>
    go_wp2
    go_ret
    exact ⟨rfl, HB3.out⟩
  | false =>
    go_wp2
    go_ret
    exact ⟨rfl, HB3.out⟩
end Go.Proofs.YteckefolakjafaaGreatDoor

