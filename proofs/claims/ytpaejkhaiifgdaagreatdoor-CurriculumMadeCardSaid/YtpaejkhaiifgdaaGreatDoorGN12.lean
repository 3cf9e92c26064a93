/-
  Whether two lists of pairs are equal: SamePairs of the specification, at equal lists. Conditions: both lie in memory.
  Lists of lists of strings: Plain of the specification of records, SameLists. Conditions: the lists lie in memory.
  Records out of lists of fields: Plain of the specification of records. Conditions: the lists lie in memory; no more than 1000000 of each, of at most 1000000 bytes each.
  The walk of Plain. Conditions: as in R7Q.
  The sanity check of the laws of curriculum. Conditions: the variables hold what their text lays.
-/
import Derived.Test.YtpaejkhaiifgdaaGreatDoorGN01
import Derived.Test.YtpaejkhaiifgdaaGreatDoorGN02
import Derived.Test.YtpaejkhaiifgdaaGreatDoorGN03
import Derived.Test.YtpaejkhaiifgdaaGreatDoorGN04
import Derived.Test.YtpaejkhaiifgdaaGreatDoorGN06
import Derived.Test.YtpaejkhaiifgdaaGreatDoorGN07
import Derived.Test.YtpaejkhaiifgdaaGreatDoorGN08
import Derived.Test.YtpaejkhaiifgdaaGreatDoorGN09
import Derived.Test.YtpaejkhaiifgdaaGreatDoorGN10
import Derived.Test.YtpaejkhaiifgdaaGreatDoorGN11
import Derived.Test.YtpaejkhaiifgdaaGreatDoorProg
import Derived.WalkKit
import Derived.WalkSpells
import Derived.WalkLawsBesides
import Derived.Lib.Hide
import Derived.Deep.QuietTactic
import Derived.BigQuiet
import Derived.Laws.Rows
import Derived.OwnWalk
import Derived.Lib.BufferWrite
import Derived.Lib.UnsafeStr
import Derived.Laws.IdiomStrings
import Derived.Laws.BytesArg
import Derived.Laws.BytesString
import Derived.Laws.OwnMore
import Derived.Lib.IndexLaws
import Derived.Lib.ItoaNum
import Derived.Lib.Atoi
import Derived.Lib.Bytealg
import Derived.Deep.RegionLaw
import Derived.Deep.RegionHeld3
import Derived.Handy
import Derived.RegionTactic
import Derived.Deep.DeepCutAuto
import Derived.Deep.CutBlock
import Derived.Shelf.Abstract
import Derived.Laws.AppendOwn
import Derived.Maps.OwnSet
import Derived.Maps.Range
import Derived.Laws.Tables
import Derived.Maps.AppendAt
import Derived.Stop.BytesEq
import Derived.Deep.AppendLies
import Derived.RangeFuncBox
import Derived.RangeFuncNested
import Derived.RangeFuncBound
import Derived.RangeFuncCalls
import Derived.RangeFuncLeaves
import Derived.Shelf.RegionOpen
import Derived.OwnWalkIn
import Derived.Lib.SlTrimSet
import Derived.Shelf.Strings.Builder1
import Derived.Shelf.Strings.Builder2
import Derived.Shelf.Strings.OnBuilder
import Derived.Shelf.Strings.Trim
import Derived.Shelf.Small.Utf8
import Derived.Shelf.Small.Strs
import Derived.Shelf.Strings.BuilderF
import Derived.Shelf.Strings.BuilderK
import Derived.Shelf.Strings.Builder2Cap
import Derived.Shelf.Strconv.Atoi
import Derived.Shelf.Strconv.Itoa0
import Derived.Shelf.Strconv.Itoa1
import Derived.Shelf.LaysM
import Derived.Shelf.Strconv.Itoa2
import Derived.Shelf.Strconv.Itoa3
import Derived.Shelf.Strconv.AtoiErrFast
import Derived.Shelf.Strconv.ParseIntEmpty
import Derived.Shelf.Strconv.AtoiFail
import Derived.Shelf.Strconv.Clone
import Derived.Shelf.Strconv.SyntaxError
import Derived.Shelf.LaysC
import Derived.Shelf.Strconv.ToError
import Derived.Shelf.Strconv.AtoiErr
import Derived.Shelf.Strings.Search1
import Derived.Shelf.Strings.Search2
import Derived.Shelf.Strings.Search3
import Derived.Shelf.Strings.Cut
import Derived.Shelf.Strings.Shaped
import Derived.Shelf.Strings.Prefix
import Derived.Shelf.Strings.Runes
import Derived.Shelf.Strings.AsciiSet
import Derived.Shelf.Bits.Mul64
import Derived.Shelf.Strings.Repeat
import Derived.Shelf.Unicode.DecodeSlow
import Derived.Shelf.Strings.BuilderCap
import Derived.Shelf.Slices.Turned
import Derived.Shelf.Strings.SlTrimAscii
import Derived.Lib.AtoiErrMem
import Derived.Laws.ResultCell
import Derived.Lib.Repeat
import Derived.Lib.SlicesS
import Derived.TacticsInMore
import Derived.LoopNIn
import Derived.LoopIn
import Derived.Lib.Join
import Derived.Laws.Concat
set_option linter.unusedVariables false
namespace Go.Proofs.YtpaejkhaiifgdaaGreatDoor.S11
open Go Go.Proofs Go.RowKit Go.Lib Go.Proofs.YtpaejkhaiifgdaaGreatDoor Go.Proofs.YtpaejkhaiifgdaaGreatDoor.S10

theorem PairRow.cell {w : World} {B : Nat} {v : Value} {l : List StartD} (h : PairRow w B v l) {j : Nat} {p : StartD} (hj : l[j]? = some p) :
    ∃ g cap, v = .slice (some ⟨g, 0, none⟩) l.length cap ∧ w.cell? ⟨g, j * 2, none⟩ = some (.int .i64 p.1) ∧ w.cell? ⟨g, j * 2 + 1, none⟩ = some (.int .i64 p.2) := by
  rcases h.2 with ⟨_, h0⟩ | ⟨g, cap, cur, hv, hB, _⟩
  · have := (List.getElem?_eq_some_iff.1 hj).1
    omega
  · have k : ∀ i u, (startVs p)[i]? = some u → w.cell? ⟨g, j * 2 + i, none⟩ = some u := fun i u hi => by
      have := World.ownsRow.cells h (g := g) (by rw [hv]; rfl) (j * 2 + i) u (startVals_get l j p hj i u hi)
      rwa [Addr.add_lit, Nat.zero_add] at this
    exact ⟨g, cap, hv, k 0 _ rfl, k 1 _ rfl⟩
set_option maxHeartbeats 4000000 in
set_option maxRecDepth 100000 in
theorem samePairs_any (v v' : Value) (ps : List StartD) (B B' : Nat) (w : World) (h : PairRow w B v ps) (h' : PairRow w B' v' ps) (hl : ps.length ≤ 1000000000) :
    Calls Tryz.prog 12 #[v, v'] w fun e w' => e = .returned (.bool true) ∧ ∃ q, w' = w.drewN q := by
  obtain ⟨A1, c1, rfl⟩ := S3.row_slice h
  obtain ⟨A2, c2, rfl⟩ := S3.row_slice h'
  have H := hid h
  have H' := hid h'
  clear h h'
  go_enter Tryz.func12, Tryz.ntmps12
  go_wp2
  go_loopw [5] (fun i wr => ∃ k : Nat, i = .int .i64 (k : Int) ∧ k ≤ ps.length ∧ ∃ q, wr = w.drewN q) (fun i _ => ps.length - (RowKit.intOf i).toNat)
  case atStart => exact ⟨0, rfl, Nat.zero_le _, 0, rfl⟩
  case round =>
    obtain ⟨k, rfl, hk, q, rfl⟩ := hrel
    by_cases hlt : k < ps.length
    · have hltz : (k : Int) < (ps.length : Int) := by omega
      obtain ⟨p, hp⟩ : ∃ p, ps[k]? = some p := ⟨_, List.getElem?_eq_getElem hlt⟩
      obtain ⟨g, cap', hv, a0, a1⟩ := H.out.cell hp
      injection hv with hA _ hcp
      subst hA hcp
      obtain ⟨g', cap', hv, b0, b1⟩ := H'.out.cell hp
      injection hv with hA _ hcp
      subst hA hcp
      obtain ⟨p0, p1⟩ := p
      dsimp only at a0 a1 b0 b1
      clear hp
      have hne : ∀ w, (binOp .neq 61 (.agg #[.int .i64 p0, .int .i64 p1]) (.agg #[.int .i64 p0, .int .i64 p1])).run Tryz.prog w = .ok (.bool false) w := fun w => by rw [run_neq_pair]; simp
      have hgd := fun w x y => run_guard_pair w .neq x y #[.int .i64 p0, .int .i64 p1] #[.int .i64 p0, .int .i64 p1]
      go_wp2
      go_quiet (fail)
      go_wp2
      go_roundw
      case rel => exact ⟨k + 1, by go_num, by omega, q + nq, by first | rfl | rw [World.drewN_drewN]⟩
      case measure => simp [RowKit.intOf]; omega
    · have hltz : ¬ (k : Int) < (ps.length : Int) := by omega
      go_wp2
      go_ret
      exact ⟨rfl, q, rfl⟩
end Go.Proofs.YtpaejkhaiifgdaaGreatDoor.S11

set_option linter.unusedVariables false
namespace Go.Proofs.YtpaejkhaiifgdaaGreatDoor
open Go Go.Proofs Go.RowKit Go.Lib

/-- The slice at A holds slices that hold the lists ls, all in blocks with P. -/
def RowsIn (w : World) (P : Nat → Prop) (A : Option Addr) (ls : List (List Str)) : Prop :=
  ls = [] ∨ ∃ b off, A = some ⟨b, off, none⟩ ∧ P b ∧ ∀ (j : Nat) (l : List Str), ls[j]? = some l → ∃ A' c', w.cell? ⟨b, off + j, none⟩ = some (.slice A' l.length c') ∧ l.length ≤ c' ∧ c' ≤ 9223372036854775807 ∧ S3.StrsIn w P A' l
theorem RowsIn.kept {w w' : World} {P : Nat → Prop} {A : Option Addr} {ls : List (List Str)} (h : RowsIn w P A ls) (hk : ∀ b, P b → w'.heap[b]? = w.heap[b]?) : RowsIn w' P A ls := by
  rcases h with h | ⟨b, off, hA, hP, hc⟩
  · exact .inl h
  · refine .inr ⟨b, off, hA, hP, fun j l hj => ?_⟩
    obtain ⟨A', c', h1, h2, h3, h4⟩ := hc j l hj
    exact ⟨A', c', (World.cell?_of_block (w := w) (hk b hP)).trans h1, h2, h3, h4.kept hk⟩
theorem RowsIn.mono {w : World} {P P' : Nat → Prop} {A : Option Addr} {l : List (List Str)} (h : RowsIn w P A l) (hP : ∀ b, P b → P' b) : RowsIn w P' A l := by
  rcases h with h | ⟨b, off, hA, hb, hc⟩
  · exact .inl h
  · refine .inr ⟨b, off, hA, hP b hb, fun j r hj => ?_⟩
    obtain ⟨A', c', h1, h2, h3, h4⟩ := hc j r hj
    exact ⟨A', c', h1, h2, h3, h4.mono hP⟩
theorem RowsIn.below {w w' : World} {B : Nat} {A : Option Addr} {l : List (List Str)} (h : RowsIn w (fun b => b < B) A l) (hb : Below B w w') : RowsIn w' (fun b => b < B) A l := h.kept fun b hB => hb.block b hB
theorem RowsIn.at_ {w : World} {P : Nat → Prop} {A : Option Addr} {ls : List (List Str)} (h : RowsIn w P A ls) {k : Nat} (hk : k < ls.length) :
    ∃ b off A' c', A = some ⟨b, off, none⟩ ∧ P b ∧ w.cell? ⟨b, off + k, none⟩ = some (.slice A' ls[k].length c') ∧ ls[k].length ≤ c' ∧ c' ≤ 9223372036854775807 ∧ S3.StrsIn w P A' ls[k] := by
  rcases h with h | ⟨b, off, hA, hP, hc⟩
  · subst h; simp at hk
  · obtain ⟨A', c', h1, h2, h3, h4⟩ := hc k _ (List.getElem?_eq_getElem hk)
    exact ⟨b, off, A', c', hA, hP, h1, h2, h3, h4⟩
end Go.Proofs.YtpaejkhaiifgdaaGreatDoor

set_option linter.unusedVariables false
namespace Go.Proofs.YtpaejkhaiifgdaaGreatDoor
open Go Go.Proofs Go.RowKit Go.Lib

/-- The fields of a record that stands without quotes: each with the column at which it begins. -/
def colsM : Int → List Str → List FieldD
  | _, [] => []
  | c, s :: r => (s, c, false) :: colsM (c + ((s.length : Int) + 1)) r
def colAt : Int → List Str → Int
  | c, [] => c
  | c, s :: r => colAt (c + ((s.length : Int) + 1)) r
theorem colsM_app : ∀ (c : Int) (a b : List Str), colsM c (a ++ b) = colsM c a ++ colsM (colAt c a) b
  | c, [], b => rfl
  | c, s :: r, b => by simp [colsM, colAt, colsM_app _ r b]
theorem colAt_snoc : ∀ (c : Int) (a : List Str) (s : Str), colAt c (a ++ [s]) = colAt c a + ((s.length : Int) + 1)
  | c, [], s => rfl
  | c, t :: r, s => by simp [colAt, colAt_snoc _ r s]
theorem colsM_len : ∀ (c : Int) (a : List Str), (colsM c a).length = a.length
  | c, [] => rfl
  | c, s :: r => by simp [colsM, colsM_len _ r]
theorem colAt_range : ∀ (c : Int) (a : List Str), (∀ s ∈ a, s.length ≤ 1000000) → c ≤ colAt c a ∧ colAt c a ≤ c + a.length * 1000001
  | c, [], _ => by simp [colAt]
  | c, s :: r, h => by
    have h1 := h s (by simp)
    have h2 := colAt_range (c + ((s.length : Int) + 1)) r (fun t ht => h t (by simp [ht]))
    simp only [colAt, List.length_cons]
    omega
def plainM (l : List (List Str)) : List RecD := l.mapIdx fun i r => ((i : Int) + 1, colsM 1 r)
theorem plainM_len (l : List (List Str)) : (plainM l).length = l.length := by simp [plainM]
theorem plainM_take (l : List (List Str)) (i : Nat) (h : i < l.length) : plainM (l.take (i + 1)) = plainM (l.take i) ++ [((i : Int) + 1, colsM 1 l[i])] := by
  rw [List.take_succ_eq_append_getElem h]
  unfold plainM
  rw [List.mapIdx_append]
  congr 1
  simp [Nat.min_eq_left (Nat.le_of_lt h)]
theorem infoField : (Tryz.prog.info? 99).map (fun i => (i.zero, i.size, i.bytes)) = some (some (.agg #[.string ⟨#[]⟩, .int .i64 0, .bool false]), 3, 32) := by kernel_rfl
theorem infoRec : (Tryz.prog.info? 27).map (fun i => (i.zero, i.size, i.bytes)) = some (some (.agg #[.int .i64 0, .slice none 0 0]), 2, 32) := by kernel_rfl
def fieldVals (l : List FieldD) : List Value := l.flatMap fieldVs
theorem fieldVals_app (a b : List FieldD) : fieldVals (a ++ b) = fieldVals a ++ fieldVals b := by simp [fieldVals]
theorem fieldVals_get : ∀ (l : List FieldD) (j : Nat) (t : FieldD), l[j]? = some t → ∀ (i : Nat) (v : Value), (fieldVs t)[i]? = some v → (fieldVals l)[j * 3 + i]? = some v
  | [], j, t, h, _, _, _ => by simp at h
  | a :: r, 0, t, h, i, v, hv => by
    simp at h
    subst h
    have hi : i < 3 := (List.getElem?_eq_some_iff.1 hv).1
    unfold fieldVals
    rw [List.flatMap_cons, List.getElem?_append_left (by show _ < 3; omega)]
    simpa using hv
  | a :: r, j + 1, t, h, i, v, hv => by
    have := fieldVals_get r j t (by simpa using h) i v hv
    unfold fieldVals at this ⊢
    rw [List.flatMap_cons, List.getElem?_append_right (by show 3 ≤ _; omega)]
    show (List.flatMap fieldVs r)[(j + 1) * 3 + i - 3]? = _
    rw [show (j + 1) * 3 + i - 3 = j * 3 + i by omega]
    exact this
def FieldRow (w : World) (B : Nat) (v : Value) (l : List FieldD) : Prop := w.ownsRow B 99 3 v l.length (fieldVals l)
theorem FieldRow.fieldsIn {w : World} {B : Nat} {v : Value} {l : List FieldD} (h : FieldRow w B v l) : ∃ A c, v = .slice A l.length c ∧ l.length ≤ c ∧ c ≤ 9223372036854775807 ∧ FieldsIn w (fun b => v.ownBlock = some b) A l := by
  have h' := h
  rcases h.2 with ⟨hv, h0⟩ | ⟨g, cap, cur, hv, hB, hg, h1, h2, _⟩
  · have hl : l = [] := List.eq_nil_of_length_eq_zero h0
    subst hl
    exact ⟨none, 0, hv, Nat.le_refl _, by omega, .inl rfl⟩
  · refine ⟨_, cap, hv, h1, by unfold maxLen at h2; omega, .inr ⟨g, 0, rfl, by rw [hv]; rfl, fun j t hj i v' hv' => ?_⟩⟩
    have := World.ownsRow.cells h' (g := g) (by rw [hv]; rfl) (j * 3 + i) v' (fieldVals_get l j t hj i v' hv')
    rw [Addr.add_lit] at this
    rw [← Nat.add_assoc] at this
    exact this
abbrev RecA := RecD × (Option Addr × Nat)
def recVs (p : RecA) : List Value := [.int .i64 p.1.1, .slice p.2.1 p.1.2.length p.2.2]
def recVals (l : List RecA) : List Value := l.flatMap recVs
theorem recVals_app (a b : List RecA) : recVals (a ++ b) = recVals a ++ recVals b := by simp [recVals]
theorem recVals_get : ∀ (l : List RecA) (j : Nat) (t : RecA), l[j]? = some t → ∀ (i : Nat) (v : Value), (recVs t)[i]? = some v → (recVals l)[j * 2 + i]? = some v
  | [], j, t, h, _, _, _ => by simp at h
  | a :: r, 0, t, h, i, v, hv => by
    simp at h
    subst h
    have hi : i < 2 := (List.getElem?_eq_some_iff.1 hv).1
    unfold recVals
    rw [List.flatMap_cons, List.getElem?_append_left (by show _ < 2; omega)]
    simpa using hv
  | a :: r, j + 1, t, h, i, v, hv => by
    have := recVals_get r j t (by simpa using h) i v hv
    unfold recVals at this ⊢
    rw [List.flatMap_cons, List.getElem?_append_right (by show 2 ≤ _; omega)]
    show (List.flatMap recVs r)[(j + 1) * 2 + i - 2]? = _
    rw [show (j + 1) * 2 + i - 2 = j * 2 + i by omega]
    exact this
/-- A slice of records that the call owns; what they lead to lies in the call's own blocks, and not in the slice's. -/
def RecRow (w : World) (B : Nat) (v : Value) (l : List RecD) : Prop := ∃ L : List RecA, L.map (·.1) = l ∧ w.ownsRow B 27 2 v L.length (recVals L) ∧
  ∀ p ∈ L, FieldsIn w (fun b => B ≤ b ∧ b < w.heap.size ∧ v.ownBlock ≠ some b) p.2.1 p.1.2 ∧ p.1.2.length ≤ p.2.2 ∧ p.2.2 ≤ 9223372036854775807
theorem RecRow.recsIn {w : World} {B : Nat} {v : Value} {l : List RecD} (h : RecRow w B v l) : ∃ A c, v = .slice A l.length c ∧ l.length ≤ c ∧ c ≤ 9223372036854775807 ∧ RecsIn w (fun b => B ≤ b ∧ b < w.heap.size) A l := by
  obtain ⟨L, rfl, h, hL⟩ := h
  have h' := h
  have hn : (L.map (·.1)).length = L.length := List.length_map _
  rcases h.2 with ⟨hv, h0⟩ | ⟨g, cap, cur, hv, hB, hg, h1, h2, _⟩
  · have hl : L = [] := List.eq_nil_of_length_eq_zero h0
    subst hl
    exact ⟨none, 0, by rw [hv]; rfl, Nat.le_refl _, by omega, .inl rfl⟩
  · refine ⟨_, cap, by rw [hn]; exact hv, by rw [hn]; exact h1, by unfold maxLen at h2; omega, .inr ⟨g, 0, rfl, ⟨hB, (Array.getElem?_eq_some_iff.1 hg).1⟩, fun j r hj => ?_⟩⟩
    rw [List.getElem?_map] at hj
    obtain ⟨p, hp, rfl⟩ := Option.map_eq_some_iff.1 hj
    obtain ⟨f1, f2, f3⟩ := hL p (List.mem_of_getElem? hp)
    refine ⟨p.2.1, p.2.2, f1.mono (fun b hb => ⟨hb.1, hb.2.1⟩), f2, f3, ?_, ?_⟩
    · have := World.ownsRow.cells h' (g := g) (by rw [hv]; rfl) (j * 2 + 0) _ (recVals_get L j p hp 0 _ rfl)
      rw [Addr.add_lit] at this
      rw [← Nat.add_assoc] at this
      exact this
    · have := World.ownsRow.cells h' (g := g) (by rw [hv]; rfl) (j * 2 + 1) _ (recVals_get L j p hp 1 _ rfl)
      rw [Addr.add_lit] at this
      rw [← Nat.add_assoc] at this
      exact this
end Go.Proofs.YtpaejkhaiifgdaaGreatDoor

set_option linter.unusedVariables false
namespace Go.Proofs.YtpaejkhaiifgdaaGreatDoor
open Go Go.Proofs Go.RowKit Go.Lib

/-- What holds while the fields of one record are laid down: the record's box X, whose list owns a row from X + 1 on; below X nothing has turned since wz. -/
structure PIn (X : Nat) (line : Int) (wz w : World) (l : List FieldD) : Prop where
  x : ∃ A c, w.heap[X]? = some (.cells #[.int .i64 line, .slice A l.length c] 27 (0, 0)) ∧ FieldRow w (X + 1) (.slice A l.length c) l
  b : Below X wz w

theorem PIn.snoc {X g7 cap7 k cx : Nat} {line : Int} {wz wr w7 : World} {L0 : List FieldD} {f : FieldD} {Ax : Option Addr} (hb : Below X wz wr) (hxr : wr.ownsRow (X + 1) 99 3 (.slice Ax k cx) k (fieldVals L0)) (hg : wr.grownBy w7 (Value.slice Ax k cx).ownBlock)
    (hx7 : w7.heap[X]? = some (.cells #[.int .i64 line, .slice Ax k cx] 27 (0, 0))) (hown : w7.ownsRow (X + 1) 99 3 (.slice (some ⟨g7, 0, none⟩) (k + 1) cap7) (k + 1) (fieldVals L0 ++ fieldVs f)) (hl : L0.length = k) (hXs : X < wr.heap.size) :
    PIn X line wz (w7.setCell ⟨X, 1, none⟩ (.slice (some ⟨g7, 0, none⟩) (k + 1) cap7)) (L0 ++ [f]) := by
  have hs := hg.size
  have hg2 : w7.grownBy (w7.setCell ⟨X, 1, none⟩ (.slice (some ⟨g7, 0, none⟩) (k + 1) cap7)) (some X) := ⟨by simp [World.setCell], by simp [World.setCell], by simp [World.setCell], by simp [World.setCell], fun j _ hj => Below.heap_setCell w7 ⟨X, 1, none⟩ _ j (fun e => hj (by rw [show j = X from e]))⟩
  have hn : (L0 ++ [f]).length = k + 1 := by simp [hl]
  refine ⟨⟨some ⟨g7, 0, none⟩, cap7, ?_, ?_⟩, ?_⟩
  · rw [hn, heap_setCell_same w7 X 1 _ _ _ hx7]; rfl
  · unfold FieldRow
    rw [hn, fieldVals_app]
    refine World.ownsRow.kept ?_ hg2 (.inr fun e => ?_)
    · simpa [fieldVals] using hown
    · have := (World.ownsRow.lt hown _ e).1
      omega
  · exact (hb.grown hg (by omega) (fun j e => by have := (World.ownsRow.lt hxr j e).1; omega)).grown hg2 (by omega) (fun j e => by injection e; omega)
theorem RecRow.snoc {wz wr w9 : World} {B X n : Nat} {v v' : Value} {l : List RecD} {x : RecD} {Ax : Option Addr} {cx : Nat} {L : List RecA} (hL : L.map (·.1) = l) (ho : wz.ownsRow B 27 2 v n (recVals L))
    (hr : ∀ p ∈ L, FieldsIn wz (fun b => B ≤ b ∧ b < wz.heap.size ∧ v.ownBlock ≠ some b) p.2.1 p.1.2 ∧ p.1.2.length ≤ p.2.2 ∧ p.2.2 ≤ 9223372036854775807) (hn : L.length = n) (hX : wz.heap.size = X) (hBX : B ≤ X) (hb : Below X wz wr)
    (hf : FieldRow wr (X + 1) (.slice Ax x.2.length cx) x.2) (hg : wr.grownBy w9 v.ownBlock) (hat : v'.ownBlock = v.ownBlock ∨ ∃ j, v'.ownBlock = some j ∧ wr.heap.size ≤ j)
    (hown : w9.ownsRow B 27 2 v' (n + 1) (recVals L ++ recVs (x, (Ax, cx)))) : RecRow w9 B v' (l ++ [x]) := by
  have hs := hg.size
  have hbs := hb.size
  have hvl : ∀ g, v.ownBlock = some g → B ≤ g ∧ g < X := fun g e => hX ▸ World.ownsRow.lt ho g e
  have hne : ∀ b, b < wr.heap.size → v.ownBlock ≠ some b → v'.ownBlock ≠ some b := by
    intro b hb hne
    rcases hat with e | ⟨j, e, hj⟩
    · rw [e]; exact hne
    · rw [e]; intro e0; injection e0 with e0; omega
  refine ⟨L ++ [(x, (Ax, cx))], by rw [List.map_append, hL]; rfl, ?_, fun p hp => ?_⟩
  · rw [List.length_append, List.length_singleton, hn, recVals_app]
    simpa [recVals] using hown
  · rcases List.mem_append.1 hp with hp | hp
    · obtain ⟨f1, f2, f3⟩ := hr p hp
      refine ⟨(f1.kept (w' := w9) (fun b hb' => ?_)).mono (fun b hb' => ⟨hb'.1, by omega, hne b (by omega) hb'.2.2⟩), f2, f3⟩
      rw [hg.block b (by omega) (fun e => hb'.2.2 e.symm), hb.block b (by omega)]
    · rw [List.mem_singleton] at hp
      subst hp
      obtain ⟨A5, c5, eA, hl5, hc5, hI5⟩ := hf.fieldsIn
      obtain ⟨rfl, rfl⟩ : Ax = A5 ∧ cx = c5 := by injection eA with e1 _ e3; exact ⟨e1, e3⟩
      have hown5 : ∀ b, (Value.slice Ax x.2.length cx).ownBlock = some b → X + 1 ≤ b ∧ b < wr.heap.size := fun b e => World.ownsRow.lt hf b e
      have hnv : ∀ b, (Value.slice Ax x.2.length cx).ownBlock = some b → v.ownBlock ≠ some b := fun b e e2 => by have := hown5 b e; have := hvl b e2; omega
      refine ⟨(hI5.kept (w' := w9) (fun b hb' => hg.block b (hown5 b hb').2 (fun e => hnv b hb' e.symm))).mono (fun b hb' => ⟨by have := hown5 b hb'; omega, by have := hown5 b hb'; omega, hne b (hown5 b hb').2 (hnv b hb')⟩), hl5, hc5⟩
set_option maxHeartbeats 8000000 in
set_option maxRecDepth 100000 in
theorem plain_any (A : Option Addr) (rows : List (List Str)) (c B : Nat) (w : World) (hB : B ≤ w.heap.size) (h : RowsIn w (fun b => b < B) A rows) (hr : rows.length ≤ 1000000) (hf : ∀ r ∈ rows, r.length ≤ 1000000) (hs : ∀ r ∈ rows, ∀ s ∈ r, s.length ≤ 1000000) :
    Calls Tryz.prog 29 #[.slice A rows.length c] w fun e w' => (∃ v, e = .returned v ∧ RecRow w' w.heap.size v (plainM rows)) ∧ Below w.heap.size w w' := by
  obtain ⟨iF, hiF, hzF, hsF, hbF⟩ := info_parts infoField
  obtain ⟨iR, hiR, hzR, hsR, hbR⟩ := info_parts infoRec
  have HH := hid h
  have HF := hid hf
  have HS := hid hs
  clear h hf hs
  go_enter Tryz.func29, Tryz.ntmps29
  go_wp2
  go_loopw [3, 4, 5, 6, 7] (fun v iv _ _ _ wr => ∃ (i : Nat) (Ao : Option Addr) (no co : Nat), v = .slice Ao no co ∧ iv = .int .i64 (i : Int) ∧ i ≤ rows.length ∧ Hid (RecRow wr w.heap.size (.slice Ao no co) (plainM (rows.take i))) ∧ Hid (Below w.heap.size w wr)) (fun _ iv _ _ _ _ => rows.length - (RowKit.intOf iv).toNat)
  case atStart => exact ⟨0, _, _, _, rfl, rfl, Nat.zero_le _, hid ⟨[], rfl, World.ownsRow_nil _ _ _ _, fun p hp => by simp at hp⟩, hid (Below.refl _ _)⟩
  case round =>
    obtain ⟨i, Ao, no, co, rfl, rfl, hi, hO, hBw⟩ := hrel
    by_cases hlt : i < rows.length
    · have hltz : (i : Int) < (rows.length : Int) := by omega
      have q1 : IntKind.i64.wrap ((i : Int) + 1) = (i : Int) + 1 := IntWalk.i64_in _ (by omega)
      obtain ⟨b1, o1, A1, c1, rfl, hb1, g1, e1, e2, s1⟩ := ((HH.out.mono (fun b hb => Nat.lt_of_lt_of_le hb hB)).below hBw.out).at_ hlt
      have hfl := HF.out _ (List.getElem_mem hlt)
      have hsl := HS.out _ (List.getElem_mem hlt)
      have hst := plainM_take rows i hlt
      obtain ⟨row, hrow⟩ : ∃ r, rows[i] = r := ⟨_, rfl⟩
      rw [hrow] at g1 e1 s1 hfl hsl hst
      have HST := hid hst
      have HSL := hid hsl
      have S1 := hid s1
      have hX0 := heap_alloc_new wr (.cells #[.int .i64 ((i : Int) + 1), .slice none 0 0] 27)
      have hB0 := (Below.refl wr.heap.size wr).alloc (Nat.le_refl _) (.cells #[.int .i64 ((i : Int) + 1), .slice none 0 0] 27)
      have hs0 : (wr.alloc (.cells #[.int .i64 ((i : Int) + 1), .slice none 0 0] 27)).heap.size = wr.heap.size + 1 := by simp
      have HX0 := hid hX0
      have HB0 := hid hB0
      have HS0 := hid hs0
      clear hst hsl s1 hrow hX0 hB0 hs0
      go_wp2_with fail
      generalize wr.alloc (.cells #[.int .i64 ((i : Int) + 1), .slice none 0 0] 27) = wx at HX0 HB0 HS0 ⊢
      have hk0 : PIn wr.heap.size ((i : Int) + 1) wr wx [] := ⟨⟨none, 0, HX0.out, World.ownsRow_nil _ _ _ _⟩, HB0.out⟩
      have hwz := hBw.out.size
      have HK0 := hid hk0
      clear hk0 HX0 HB0 HS0
      generalize hz : wr = wz at *
      obtain ⟨X, hX⟩ : ∃ X, wz.heap.size = X := ⟨_, rfl⟩
      have hbX : b1 < X := by omega
      have HBW := hid hBw.out
      have HO := hid hO.out
      rw [hX] at HK0 hwz ⊢
      clear hz hO hBw
      go_loopw [6, 7] (fun cv kv wr2 => ∃ (k : Nat) (cl : Int), cv = .int .i64 cl ∧ kv = .int .i64 (k : Int) ∧ k ≤ row.length ∧ Hid (cl = colAt 1 (row.take k)) ∧ Hid (PIn X ((i : Int) + 1) wz wr2 (colsM 1 (row.take k)))) (fun _ kv _ => row.length - (RowKit.intOf kv).toNat)
      case atStart => exact ⟨0, 1, rfl, rfl, Nat.zero_le _, hid rfl, hid HK0.out⟩
      case round =>
        obtain ⟨k, cl, rfl, rfl, hk, hcl, hP⟩ := hrel
        obtain ⟨⟨Ax, cx, hxb, hxr⟩, hPb⟩ := hP.out
        have kc : ∀ b o : Nat, b < w.heap.size → wr.cell? ⟨b, o, none⟩ = wz.cell? ⟨b, o, none⟩ := fun b o hb => hPb.cell (p := ⟨b, o, none⟩) (by show b < X; omega)
        have g2 : wr.cell? ⟨b1, o1 + i, none⟩ = some (.slice A1 row.length c1) := by rw [kc b1 _ hb1]; exact g1
        have cx0 : wr.cell? ⟨X, 0, none⟩ = some (.int .i64 ((i : Int) + 1)) := by rw [Lib.cell_of_heap hxb]; rfl
        have cx1 : wr.cell? ⟨X, 1, none⟩ = some (.slice Ax (colsM 1 (row.take k)).length cx) := by rw [Lib.cell_of_heap hxb]; rfl
        have fx1 : wr.frozen? ⟨X, 1, none⟩ = false := by simp [World.frozen?, hxb]
        by_cases hlk : k < row.length
        · have hlkz : (k : Int) < (row.length : Int) := by omega
          obtain ⟨b2, o2, rfl, hb2, g3⟩ := S1.out.at_ hlk
          have hXs : X < wr.heap.size := (Array.getElem?_eq_some_iff.1 hxb).1
          have hb1s : b1 < wr.heap.size := by omega
          have hb2s : b2 < wr.heap.size := by omega
          have g3' : wr.cell? ⟨b2, o2 + k, none⟩ = some (.string (ba row[k])) := by rw [kc b2 _ hb2]; exact g3
          obtain ⟨str, hstr⟩ : ∃ t, row[k] = t := ⟨_, rfl⟩
          rw [hstr] at g3'
          have hnk : (colsM 1 (row.take k)).length = k := by rw [colsM_len, List.length_take]; omega
          have hslen := HSL.out str (by rw [← hstr]; exact List.getElem_mem hlk)
          have hcols : colsM 1 (row.take (k + 1)) = colsM 1 (row.take k) ++ [(str, cl, false)] := by rw [List.take_succ_eq_append_getElem hlk, colsM_app, hstr, hcl.out]; rfl
          have hcl2 : colAt 1 (row.take (k + 1)) = cl + ((str.length : Int) + 1) := by rw [List.take_succ_eq_append_getElem hlk, colAt_snoc, hstr, hcl.out]
          have hclr := colAt_range 1 (row.take k) (fun s hs => HSL.out s (List.mem_of_mem_take hs))
          rw [← hcl.out, List.length_take] at hclr
          unfold FieldRow at hxr
          rw [hnk] at hxr cx1 hxb
          have HXB := hid hxb
          obtain ⟨L0, hL0⟩ : ∃ L0, colsM 1 (row.take k) = L0 := ⟨_, rfl⟩
          rw [hL0] at hxr hcols
          have HXR := hid hxr
          have HM : Hid (k + 1 ≤ maxLen) := hid (by unfold maxLen; omega)
          have HM2 : Hid ((k + 1) * 32 ≤ 140737488355328) := hid (by omega)
          have HCO := hid hcols
          have HC2 := hid hcl2
          have hwq : IntKind.i64.wrap ((k : Int) + 1) = (k : Int) + 1 := IntWalk.i64_in _ (by omega)
          have hsz : (ba str).size = str.length := Lib.size_eq _
          have HL0 : Hid (L0.length = k) := hid (by rw [← hL0]; exact hnk)
          have HPB := hid hPb
          have G3 : Hid (wz.cell? ⟨b2, o2 + k, none⟩ = some (.string (ba str))) := hid (by rw [← hstr]; exact g3)
          clear hxr hcols hcl2 kc g3 hnk hL0
          obtain ⟨z, hzs⟩ : ∃ z, ba str = z := ⟨_, rfl⟩
          rw [hzs] at g3' hsz G3
          have HZS := hid hzs
          clear hzs
          have HFN : Hid (∀ (w : World) (j : Nat) (u : Value), (fieldVs (str, cl, false))[j]? = some u → (w.alloc (.cells #[.string z, .int .i64 cl, .bool false] 99)).cell? ((⟨w.heap.size, 0, none⟩ : Addr).add j) = some u) := hid (fun w j u h => by
            have e := heap_alloc_new w (.cells #[.string z, .int .i64 cl, .bool false] 99)
            rw [Addr.add_lit, Lib.cell_of_heap e]
            match j, h with
            | 0, h => rw [← HZS.out]; exact h
            | 1, h => exact h
            | 2, h => exact h
            | j + 3, h => simp [fieldVs] at h)
          have HF1 : Hid (∀ u ∈ fieldVs (str, cl, false), u.oneCell' = true) := hid (fun u hu => by
            simp [fieldVs] at hu
            rcases hu with rfl | rfl | rfl <;> rfl)
          go_wp2_with fail
          go_region_law (
            (refine step_append_lies _ ?_ (.tmp 27) (.tmp 37) 25 ?_ (X + 1) 99 iF (.agg #[.string ⟨#[]⟩, .int .i64 0, .bool false]) 3 32 Tryz.underlying25 hiF hzF hsF hbF ?_ ?_ (.slice Ax k cx) k (fieldVals L0) ?_ ?_ ⟨wr.heap.size, 0, none⟩ 1 1 (fieldVs (str, cl, false)) ?_ ?_ ?_ ?_ (by decide) HM.out HM2.out ?_ (wr.heap.size + 1) ?_ ?_
             · rfl
             · rfl
             · rfl
             · decide
             · simp [Act.eval]
             · exact row_drawn (World.ownsRow.alloc HXR.out _) 1
             · simp [Act.eval]
             · rfl
             · exact HFN.out wr
             · exact HF1.out
             · simp; omega
             · simp
             intro g7 cap7 w7 hown7 hgrow7 hat7 hlt7
             have HOW := hid hown7
             have HGR := hid hgrow7
             have HAT := hid hat7
             have hgw : wr.grownBy w7 (Value.slice Ax k cx).ownBlock := ⟨hgrow7.os, hgrow7.tape, hgrow7.output, by have := hgrow7.size; simp at this; omega, fun j hj hr => (hgrow7.block j (by simp; omega) hr).trans (Below.heap_alloc wr _ j hj)⟩
             have hx7 : w7.heap[X]? = some (.cells #[.int .i64 ((i : Int) + 1), .slice Ax k cx] 27 (0, 0)) := (hgrow7.block X (by simp; omega) (fun e => by have := (World.ownsRow.lt HXR.out X e.symm).1; omega)).trans ((Below.heap_alloc wr _ X hXs).trans HXB.out)
             have c71 : w7.cell? ⟨X, 1, none⟩ = some (.slice Ax k cx) := by rw [Lib.cell_of_heap hx7]; rfl
             have f71 : w7.frozen? ⟨X, 1, none⟩ = false := by simp [World.frozen?, hx7]
             have HX7 := hid hx7
             have hP8 := PIn.snoc HPB.out HXR.out hgw hx7 hown7 HL0.out hXs
             have HP8 := hid hP8
             clear hown7 hgrow7 hat7 hx7 hgw hP8 HGR HOW HAT HX7))
          all_goals
            obtain ⟨w8, h8⟩ : ∃ w8, w7.setCell ⟨X, 1, none⟩ (.slice (some ⟨g7, 0, none⟩) (k + 1) cap7) = w8 := ⟨_, rfl⟩
            rw [h8] at HP8 ⊢
            clear h8
            have kc8 : ∀ b o : Nat, b < w.heap.size → w8.cell? ⟨b, o, none⟩ = wz.cell? ⟨b, o, none⟩ := fun b o hb => HP8.out.b.cell (p := ⟨b, o, none⟩) (by show b < X; omega)
            have g28 : w8.cell? ⟨b1, o1 + i, none⟩ = some (.slice (some ⟨b2, o2, none⟩) row.length c1) := by rw [kc8 b1 _ hb1]; exact g1
            have g38 : w8.cell? ⟨b2, o2 + k, none⟩ = some (.string z) := by rw [kc8 b2 _ hb2]; exact G3.out
            have hq1 : IntKind.i64.wrap ((z.size : Int) + 1) = (z.size : Int) + 1 := IntWalk.i64_in _ (by omega)
            have hq2 : IntKind.i64.wrap (cl + ((z.size : Int) + 1)) = cl + ((z.size : Int) + 1) := IntWalk.i64_in _ (by omega)
            clear kc8
            go_wp2
            refine ⟨⟨k + 1, _, rfl, by go_num, by omega, hid HC2.out.symm, hid ?_⟩, by simp [RowKit.intOf]; omega⟩
            rw [HCO.out]
            exact HP8.out
        · have hkr : k = row.length := by omega
          subst hkr
          rw [List.take_of_length_le (Nat.le_refl _)] at hcl hxr hxb cx1
          rw [colsM_len] at cx1 hxb hxr
          have hlkz : ¬ ((row.length : Int) < (row.length : Int)) := by omega
          have hXs : X < wr.heap.size := (Array.getElem?_eq_some_iff.1 hxb).1
          have hb1s : b1 < wr.heap.size := by omega
          obtain ⟨L, hL, ho, hr⟩ := HO.out
          have hLl : L.length = i := by
            have := congrArg List.length hL
            rw [List.length_map, plainM_len, List.length_take] at this
            omega
          have hno : no = i := by
            rcases ho.2 with ⟨hv, h0⟩ | ⟨g, cap, cur, hv, _⟩
            · injection hv with _ h1 _; omega
            · injection hv with _ h1 _; omega
          subst hno
          rw [hLl] at ho
          have ho2 : wr.ownsRow w.heap.size 27 2 (.slice Ao no co) no (recVals L) := row_under ho (by rw [hX]; exact hPb)
          have HO2 := hid ho2
          have HL := hid hL
          have HLl := hid hLl
          have HRR := hid hr
          have HOZ := hid ho
          have HM : Hid (no + 1 ≤ maxLen) := hid (by unfold maxLen; omega)
          have HM2 : Hid ((no + 1) * 32 ≤ 140737488355328) := hid (by omega)
          have HXR := hid hxr
          have HPB := hid hPb
          have HSZ : Hid (∀ o : Obj, w.heap.size ≤ (wr.alloc o).heap.size) := hid (fun o => by simp; omega)
          have HNW : Hid (∀ (j : Nat) (u : Value), ([Value.int .i64 ((no : Int) + 1), .slice Ax row.length cx] : List Value)[j]? = some u → (wr.alloc (.cells #[.int .i64 ((no : Int) + 1), .slice Ax row.length cx] 27)).cell? ((⟨wr.heap.size, 0, none⟩ : Addr).add j) = some u) := hid (fun j u h => by
            have e := heap_alloc_new wr (.cells #[.int .i64 ((no : Int) + 1), .slice Ax row.length cx] 27)
            rw [Addr.add_lit, Lib.cell_of_heap e]
            match j, h with
            | 0, h => exact h
            | 1, h => exact h
            | j + 2, h => simp at h)
          have HN1 : Hid (∀ u ∈ ([Value.int .i64 ((no : Int) + 1), .slice Ax row.length cx] : List Value), u.oneCell' = true) := hid (fun u hu => by
            simp at hu
            rcases hu with rfl | rfl <;> rfl)
          clear ho2 hL hr ho hxr hPb hLl kc
          go_wp2_with (at_builtin; refine wpList_append_own_at _ rfl _ _ 23 rfl w.heap.size 27 iR (.agg #[.int .i64 0, .slice none 0 0]) 2 32 Tryz.underlying23 hiR hzR hsR hbR rfl (by decide) _ no (recVals L) rfl (World.ownsRow.alloc HO2.out _) ⟨wr.heap.size, 0, none⟩ 1 1 [.int .i64 ((no : Int) + 1), .slice Ax row.length cx] rfl rfl HNW.out HN1.out HM.out HM2.out (HSZ.out _) ?_)
          intro v' w9 hown9 hgrow9 hnil9 hat9
          obtain ⟨g', cap', rfl⟩ := ownsRow_succ (k := no) hown9
          have hg9 := grownBy_of_alloc hgrow9
          have hrv : recVs ((((no : Int) + 1, colsM 1 row), (Ax, cx)) : RecA) = [.int .i64 ((no : Int) + 1), .slice Ax row.length cx] := by simp [recVs, colsM_len]
          have hsn := RecRow.snoc (x := ((no : Int) + 1, colsM 1 row)) HL.out HOZ.out HRR.out HLl.out hX (by omega) HPB.out (by have h := HXR.out; rw [← colsM_len 1 row] at h; exact h) hg9 (hat9.imp id (fun h => ⟨_, h, by simp⟩)) (by rw [hrv]; exact hown9)
          rw [← HST.out] at hsn
          have hb9 : Below w.heap.size w w9 := (HBW.out.trans (HPB.out.mono (by omega))).grown hg9 (by omega) (fun j e => by have := (World.ownsRow.lt HO2.out j e).1; omega)
          have HSN := hid hsn
          have HB9 := hid hb9
          clear hsn hb9 hg9 hown9 hgrow9 hnil9 hat9 hrv
          go_wp2
          exact ⟨⟨no + 1, _, _, _, rfl, by go_num, by omega, HSN, HB9⟩, by simp [RowKit.intOf]; omega⟩
    · have hltz : ¬ (i : Int) < (rows.length : Int) := by omega
      have HO2 : Hid (RecRow wr w.heap.size (.slice Ao no co) (plainM rows)) := hid (by have := hO.out; rwa [List.take_of_length_le (by omega)] at this)
      go_wp2
      go_ret
      exact ⟨⟨_, rfl, HO2.out⟩, hBw.out⟩
end Go.Proofs.YtpaejkhaiifgdaaGreatDoor

set_option linter.unusedVariables false
namespace Go.Proofs.YtpaejkhaiifgdaaGreatDoor.S11
open Go Go.Proofs Go.RowKit Go.Lib Go.Proofs.YtpaejkhaiifgdaaGreatDoor Go.Proofs.YtpaejkhaiifgdaaGreatDoor.S10

def awRow : List Str := [[67, 83], [65, 59, 67]]
def awCurr : CurrD := ([67, 83], [[65], [67]])
def awCls : List ClassD := [⟨[], [65], [76], 0, [], 0, [], [], []⟩, ⟨[], [66], [76], 0, [], 0, [], [], []⟩, ⟨[], [67], [76], 0, [], 0, [], [], []⟩]
theorem aw1 : S3.validC [67, 83] = true := by kernel_rfl
theorem aw5 : coursesM [65, 59, 67] = ([[65], [67]], 0) := by kernel_rfl
theorem aw8 : entryM (colsM 1 awRow) = (awCurr, 0, 0) := by
  unfold entryM awRow
  simp [colsM, efold, setF, zeroR, aw1, aw5, awCurr]
theorem awRead : recsM (plainM [awRow]) = ([awCurr], []) := by
  have h : plainM [awRow] = [(1, colsM 1 awRow)] := rfl
  rw [h]
  simp [recsM, recM, aw8, addC, codesU]
theorem awPairs : pairsM awCurr.2 awCls = [(0, 2)] := by decide +kernel
theorem awSize : ∀ x ∈ plainM [awRow], ∀ f ∈ x.2, f.1.length < 4294967281 := by
  have h : plainM [awRow] = [(1, colsM 1 awRow)] := rfl
  rw [h]
  simp [colsM, awRow]
  rintro a n (⟨rfl, _⟩ | ⟨rfl, _⟩) <;> decide
theorem aw_rows (w : World) : ∃ w2, w2 = (w.alloc (.cells #[.string ⟨#[67, 83]⟩, .string ⟨#[65, 59, 67]⟩] 9)).alloc (.cells #[.slice (some ⟨w.heap.size, 0, none⟩) 2 2] 39) ∧
    RowsIn w2 (fun k => k < w.heap.size + 2) (some ⟨w.heap.size + 1, 0, none⟩) [awRow] ∧ Below w.heap.size w w2 ∧ w2.heap.size = w.heap.size + 2 := by
  refine ⟨_, rfl, ?_, ((Below.refl _ w).alloc (Nat.le_refl _) _).alloc (by simp) _, by simp⟩
  have e1 := heap_alloc_new w (.cells #[.string ⟨#[67, 83]⟩, .string ⟨#[65, 59, 67]⟩] 9)
  have hs : (w.alloc (.cells #[.string ⟨#[67, 83]⟩, .string ⟨#[65, 59, 67]⟩] 9)).heap.size = w.heap.size + 1 := by simp
  generalize w.alloc (.cells #[.string ⟨#[67, 83]⟩, .string ⟨#[65, 59, 67]⟩] 9) = w1 at e1 hs ⊢
  have e2 := heap_alloc_new w1 (.cells #[.slice (some ⟨w.heap.size, 0, none⟩) 2 2] 39)
  have e3 := (Below.heap_alloc w1 (.cells #[.slice (some ⟨w.heap.size, 0, none⟩) 2 2] 39) w.heap.size (by omega)).trans e1
  rw [hs] at e2
  refine .inr ⟨w.heap.size + 1, 0, rfl, by omega, fun j l hj => ?_⟩
  match j, hj with
  | 0, hj =>
    obtain rfl : awRow = l := by simpa using hj
    refine ⟨some ⟨w.heap.size, 0, none⟩, 2, by rw [Lib.cell_of_heap e2]; rfl, by decide, by decide, .inr ⟨w.heap.size, 0, rfl, by omega, fun j s hj => ?_⟩⟩
    match j, hj with
    | 0, hj => obtain rfl : [67, 83] = s := by simpa [awRow] using hj
               rw [Lib.cell_of_heap e3]; rfl
    | 1, hj => obtain rfl : [65, 59, 67] = s := by simpa [awRow] using hj
               rw [Lib.cell_of_heap e3]; rfl
    | j + 2, hj => simp [awRow] at hj
  | j + 1, hj => simp at hj
def awObj : Obj := .cells #[.string ⟨#[]⟩, .string ⟨#[65]⟩, .string ⟨#[76]⟩, .int .i64 0, .slice none 0 0, .int .i64 0, .slice none 0 0, .slice none 0 0, .slice none 0 0, .string ⟨#[]⟩, .string ⟨#[66]⟩, .string ⟨#[76]⟩, .int .i64 0, .slice none 0 0, .int .i64 0, .slice none 0 0, .slice none 0 0, .slice none 0 0, .string ⟨#[]⟩, .string ⟨#[67]⟩, .string ⟨#[76]⟩, .int .i64 0, .slice none 0 0, .int .i64 0, .slice none 0 0, .slice none 0 0, .slice none 0 0] 65
theorem aw_cls (w : World) : ClassesIn (w.alloc awObj) (fun k => k < (w.alloc awObj).heap.size) (some ⟨w.heap.size, 0, none⟩) awCls := by
  have e := heap_alloc_new w awObj
  have z : ∀ (P : Nat → Prop) (c d : Str), ClassIn (w.alloc awObj) P ⟨[], c, d, 0, [], 0, [], [], []⟩ ⟨none, 0, none, 0, none, 0, none, 0⟩ := fun P c d => ⟨.inl rfl, .inl rfl, .inl rfl, .inl rfl, Nat.le_refl _, by decide, Nat.le_refl _, by decide, Nat.le_refl _, by decide, Nat.le_refl _, by decide⟩
  refine .inr ⟨w.heap.size, 0, rfl, by simp, fun j x hj => ?_⟩
  match j, hj with
  | 0, hj =>
    obtain rfl : (⟨[], [65], [76], 0, [], 0, [], [], []⟩ : ClassD) = x := by simpa [awCls] using hj
    refine ⟨_, z _ _ _, fun i v hv => ?_⟩
    rw [Lib.cell_of_heap e]
    match i, hv with
    | 0, hv => exact hv
    | 1, hv => exact hv
    | 2, hv => exact hv
    | 3, hv => exact hv
    | 4, hv => exact hv
    | 5, hv => exact hv
    | 6, hv => exact hv
    | 7, hv => exact hv
    | 8, hv => exact hv
    | i + 9, hv => simp [clsVs] at hv
  | 1, hj =>
    obtain rfl : (⟨[], [66], [76], 0, [], 0, [], [], []⟩ : ClassD) = x := by simpa [awCls] using hj
    refine ⟨_, z _ _ _, fun i v hv => ?_⟩
    rw [Lib.cell_of_heap e]
    match i, hv with
    | 0, hv => exact hv
    | 1, hv => exact hv
    | 2, hv => exact hv
    | 3, hv => exact hv
    | 4, hv => exact hv
    | 5, hv => exact hv
    | 6, hv => exact hv
    | 7, hv => exact hv
    | 8, hv => exact hv
    | i + 9, hv => simp [clsVs] at hv
  | 2, hj =>
    obtain rfl : (⟨[], [67], [76], 0, [], 0, [], [], []⟩ : ClassD) = x := by simpa [awCls] using hj
    refine ⟨_, z _ _ _, fun i v hv => ?_⟩
    rw [Lib.cell_of_heap e]
    match i, hv with
    | 0, hv => exact hv
    | 1, hv => exact hv
    | 2, hv => exact hv
    | 3, hv => exact hv
    | 4, hv => exact hv
    | 5, hv => exact hv
    | 6, hv => exact hv
    | 7, hv => exact hv
    | 8, hv => exact hv
    | i + 9, hv => simp [clsVs] at hv
  | j + 3, hj => simp [awCls] at hj
set_option maxHeartbeats 16000000 in
set_option maxRecDepth 100000 in
theorem awake_any (w : World) (hE : S3.Env w) : Calls Tryz.prog 7 #[] w (Says (.bool true) w) := by
  have hcl := aw_cls w
  have hb0 := (Below.refl w.heap.size w).alloc (Nat.le_refl _) awObj
  have hw0 : w.alloc awObj = w.alloc (.cells #[.string ⟨#[]⟩, .string ⟨#[65]⟩, .string ⟨#[76]⟩, .int .i64 0, .slice none 0 0, .int .i64 0, .slice none 0 0, .slice none 0 0, .slice none 0 0, .string ⟨#[]⟩, .string ⟨#[66]⟩, .string ⟨#[76]⟩, .int .i64 0, .slice none 0 0, .int .i64 0, .slice none 0 0, .slice none 0 0, .slice none 0 0, .string ⟨#[]⟩, .string ⟨#[67]⟩, .string ⟨#[76]⟩, .int .i64 0, .slice none 0 0, .int .i64 0, .slice none 0 0, .slice none 0 0, .slice none 0 0] 65) := rfl
  have hs1 : (w.alloc awObj).heap.size = w.heap.size + 1 := by simp
  generalize w.alloc awObj = w1 at hcl hb0 hw0 hs1
  obtain ⟨w2, hw2, hrows, hb2, hs2⟩ := aw_rows w1
  have cP := plain_any (some ⟨w1.heap.size + 1, 0, none⟩) [awRow] 1 (w1.heap.size + 2) w2 (by omega) hrows (by decide) (by decide) (by decide)
  have hcl2 := (hcl.below hb2).mono (fun k hk => Nat.lt_of_lt_of_le hk hb2.size)
  rw [hs1] at hw2 cP
  have HS2 : Hid (w.heap.size < w2.heap.size) := hid (by omega)
  have CP := hid cP
  have HB2 := hid (hb0.trans (hb2.mono hb0.size))
  have HCL := hid hcl2
  have HW0 := hid hw0
  have HW2 := hid hw2
  clear cP hb2 hrows hcl hb0 hw0 hw2 hcl2 hs2 hs1
  unfold Says
  go_enter Tryz.func7, Tryz.ntmps7
  go_wp2_with fail
  rw [← HW0.out, ← HW2.out]
  refine CP.out.mono ?_
  rintro e w3 ⟨⟨v, rfl, hrr⟩, hb3⟩
  obtain ⟨A3, c3, rfl, hl3, hc3, hrin⟩ := hrr.recsIn
  have hB3 : Below w.heap.size w w3 := HB2.out.trans (hb3.mono HB2.out.size)
  have hcl3 := (HCL.out.below hb3).mono (fun k hk => Nat.lt_of_lt_of_le hk hb3.size)
  have cR := uread_any A3 (plainM [awRow]) c3 w3 (hrin.mono (fun k hk => hk.2)) (by rw [plainM_len]; decide) awSize (hE.below hB3)
  rw [awRead, plainM_len] at cR
  rw [plainM_len]
  unfold ReadOut at cR
  have CR := hid cR
  have HB3 := hid hB3
  have HCL3 := hid hcl3
  clear cR hB3 hb3 hl3 hrin hrr hE hcl3 HCL HB2 CP HW0 HW2
  go_wp2_with fail
  refine CR.out.mono ?_
  rintro e w5 ⟨v1, v2, rfl, hrm, hpr, hb5⟩
  obtain ⟨A4, c4, rfl, hl4, hc4, hin4⟩ := hrm.currsIn
  obtain ⟨b, off, q, rfl, hPb, hrq, z0, z1⟩ := hin4.at_ (k := 0) (by decide)
  have hv2 : ∃ A5 c5, v2 = .slice A5 0 c5 := by
    rcases hpr.2 with ⟨hv, _⟩ | ⟨g, cap, cur, hv, _⟩
    · exact ⟨_, _, hv⟩
    · exact ⟨_, _, hv⟩
  obtain ⟨A5, c5, rfl⟩ := hv2
  simp only [List.getElem_cons_zero, Nat.zero_mul, Nat.add_zero] at hrq z0 z1
  have hB5 : Below w.heap.size w w5 := HB3.out.trans (hb5.mono HB3.out.size)
  have hro : CurrIn w5 (fun k => k < w5.heap.size) awCurr q := hrq.mono (fun k hk => by rcases hk with h | h <;> exact h.2)
  have hcl5 := (HCL3.out.below hb5).mono (fun k hk => Nat.lt_of_lt_of_le hk hb5.size)
  have cPP := pairs_any awCurr q (some ⟨w.heap.size, 0, none⟩) awCls 3 (by decide) (by decide) (by decide) w5 hro hcl5
  rw [awPairs] at cPP
  unfold PairOut currV at cPP
  rw [show awCls.length = 3 from rfl, show awCurr.1 = [67, 83] from rfl, show awCurr.2.length = 2 from rfl] at cPP
  rw [show awCurr.1 = [67, 83] from rfl] at z0
  rw [show awCurr.2.length = 2 from rfl] at z1
  have CPP := hid cPP
  have HB5 := hid hB5
  clear hcl5 hro hB5 cPP hrm hpr hb5 hin4 hPb hrq CR HB3 HCL3
  simp only [List.length_cons, List.length_nil, Nat.zero_add] at hl4 ⊢
  go_wp2_with fail
  refine CPP.out.mono ?_
  rintro e w6 ⟨⟨v6, rfl, hr6⟩, hb6⟩
  have hr7 := row_under hr6 ((Below.refl _ _).alloc (Nat.le_refl w6.heap.size) (.cells #[.int .i64 0, .int .i64 2] 61))
  have hlit : PairRow (w6.alloc (.cells #[.int .i64 0, .int .i64 2] 61)) w6.heap.size (.slice (some ⟨w6.heap.size, 0, none⟩) 1 1) [(0, 2)] := World.ownsRow_lit w6 #[.int .i64 0, .int .i64 2] 1 (Nat.le_refl _) (by decide) rfl
  have cS := samePairs_any v6 _ [(0, 2)] _ _ _ hr7 hlit (by decide)
  obtain ⟨A7, c7, rfl⟩ := S3.row_slice hr6
  have CS := hid cS
  have HB6 := hid ((HB5.out.trans (hb6.mono HB5.out.size)).trans ((Below.refl _ _).alloc (by have := HB5.out.size; have := hb6.size; omega) (.cells #[.int .i64 0, .int .i64 2] 61)))
  clear hr6 hb6 hr7 hlit cS z0 z1
  go_wp2_with fail
  refine CS.out.mono ?_
  rintro e w8 ⟨rfl, qq, rfl⟩
  have HB8 := hid (below_drawn HB6.out qq)
  go_wp2
  go_ret
  exact ⟨rfl, HB8.out⟩
end Go.Proofs.YtpaejkhaiifgdaaGreatDoor.S11

