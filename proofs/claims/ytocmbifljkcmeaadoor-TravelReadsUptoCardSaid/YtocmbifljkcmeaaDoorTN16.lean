/-
  Records out of lists of fields: Plain of the specification of records. Conditions: the lists lie in memory; no more than 1000000 of each, of at most 1000000 bytes each.
  The walk of Plain. Conditions: as in R7Q.
  The slots of a way between two buildings: Between of travel, Between of the specification. Conditions: the table lies in memory.
  The sanity check of the laws of travel. Conditions: the library's variable holds an error.
  Slices of structs that came in: what they hold. Conditions: as the lemmas state.
  Rooms and records that came in: what they hold, and how long their texts are. Conditions: as the lemmas state.
-/
import Derived.Test.YtocmbifljkcmeaaDoorTN01
import Derived.Test.YtocmbifljkcmeaaDoorTN02
import Derived.Test.YtocmbifljkcmeaaDoorTN03
import Derived.Test.YtocmbifljkcmeaaDoorTN04
import Derived.Test.YtocmbifljkcmeaaDoorTN05
import Derived.Test.YtocmbifljkcmeaaDoorTN06
import Derived.Test.YtocmbifljkcmeaaDoorTN07
import Derived.Test.YtocmbifljkcmeaaDoorTN08
import Derived.Test.YtocmbifljkcmeaaDoorTN09
import Derived.Test.YtocmbifljkcmeaaDoorTN10
import Derived.Test.YtocmbifljkcmeaaDoorProg
import Derived.WalkKit
import Derived.WalkSpells
import Derived.WalkLawsBesides
import Derived.Lib.Hide
import Derived.Deep.QuietTactic
import Derived.BigQuiet
import Derived.Laws.Rows
import Derived.OwnWalk
import Derived.Lib.BufferWrite
import Derived.Lib.UnsafeStr
import Derived.Laws.IdiomStrings
import Derived.Laws.BytesArg
import Derived.Laws.BytesString
import Derived.Laws.OwnMore
import Derived.Lib.IndexLaws
import Derived.Lib.ItoaNum
import Derived.Lib.Atoi
import Derived.Lib.Bytealg
import Derived.Deep.RegionLaw
import Derived.Deep.AppendLies
import Derived.Maps.AppendAt
import Derived.Handy
import Derived.Laws.ResultCell
import Derived.RangeFuncBox
import Derived.RegionTactic
import Derived.Deep.DeepCutAuto
import Derived.Deep.CutBlock
import Derived.Deep.RegionHeld3
import Derived.Deep.RegionWith
import Derived.StillTailTactics
import Derived.Shelf.Abstract
import Derived.Lib.SliceRun
import Derived.Lib.SlTrimSet
import Derived.Shelf.Strconv.Atoi
import Derived.Shelf.Strconv.Itoa0
import Derived.Shelf.Strconv.Itoa1
import Derived.Shelf.LaysM
import Derived.Shelf.Strconv.Itoa2
import Derived.Shelf.Strconv.Itoa3
import Derived.Shelf.Strconv.AtoiErrFast
import Derived.Shelf.Strconv.ParseIntEmpty
import Derived.Shelf.Strconv.AtoiFail
import Derived.Shelf.Strconv.Clone
import Derived.Shelf.Strconv.SyntaxError
import Derived.Shelf.LaysC
import Derived.Shelf.Strconv.ToError
import Derived.Shelf.Strconv.AtoiErr
import Derived.Shelf.Bits.Mul64
import Derived.Shelf.Slices.Turned
import Derived.Laws.CopyOwn
import Derived.Lib.AtoiErrMem
import Derived.ArgAppend
import Derived.Deep.DeepAppendRoom
import Derived.Deep.RegionLawGrows
import Derived.Deep.Slices
import Derived.Lib.SmallJoins
import Derived.Test.YtocmbifljkcmeaaDoorRows
set_option linter.unusedVariables false
namespace Go.Proofs.YtocmbifljkcmeaaDoor
open Go Go.Proofs Go.RowKit Go.Lib

/-- The fields of a record that stands without quotes: each with the column at which it begins. -/
def colsM : Int → List Str → List FieldD
  | _, [] => []
  | c, s :: r => (s, c, false) :: colsM (c + ((s.length : Int) + 1)) r
def colAt : Int → List Str → Int
  | c, [] => c
  | c, s :: r => colAt (c + ((s.length : Int) + 1)) r
theorem colsM_app : ∀ (c : Int) (a b : List Str), colsM c (a ++ b) = colsM c a ++ colsM (colAt c a) b
  | c, [], b => rfl
  | c, s :: r, b => by simp [colsM, colAt, colsM_app _ r b]
theorem colAt_snoc : ∀ (c : Int) (a : List Str) (s : Str), colAt c (a ++ [s]) = colAt c a + ((s.length : Int) + 1)
  | c, [], s => rfl
  | c, t :: r, s => by simp [colAt, colAt_snoc _ r s]
theorem colsM_len : ∀ (c : Int) (a : List Str), (colsM c a).length = a.length
  | c, [] => rfl
  | c, s :: r => by simp [colsM, colsM_len _ r]
theorem colAt_range : ∀ (c : Int) (a : List Str), (∀ s ∈ a, s.length ≤ 1000000) → c ≤ colAt c a ∧ colAt c a ≤ c + a.length * 1000001
  | c, [], _ => by simp [colAt]
  | c, s :: r, h => by
    have h1 := h s (by simp)
    have h2 := colAt_range (c + ((s.length : Int) + 1)) r (fun t ht => h t (by simp [ht]))
    simp only [colAt, List.length_cons]
    omega
def plainM (l : List (List Str)) : List RecD := l.mapIdx fun i r => ((i : Int) + 1, colsM 1 r)
theorem plainM_len (l : List (List Str)) : (plainM l).length = l.length := by simp [plainM]
theorem plainM_take (l : List (List Str)) (i : Nat) (h : i < l.length) : plainM (l.take (i + 1)) = plainM (l.take i) ++ [((i : Int) + 1, colsM 1 l[i])] := by
  rw [List.take_succ_eq_append_getElem h]
  unfold plainM
  rw [List.mapIdx_append]
  congr 1
  simp [Nat.min_eq_left (Nat.le_of_lt h)]
theorem infoField : (Tryd.prog.info? 81).map (fun i => (i.zero, i.size, i.bytes)) = some (some (.agg #[.string ⟨#[]⟩, .int .i64 0, .bool false]), 3, 32) := by kernel_rfl
theorem infoRec : (Tryd.prog.info? 41).map (fun i => (i.zero, i.size, i.bytes)) = some (some (.agg #[.int .i64 0, .slice none 0 0]), 2, 32) := by kernel_rfl
def fieldVals (l : List FieldD) : List Value := l.flatMap fieldVs
theorem fieldVals_app (a b : List FieldD) : fieldVals (a ++ b) = fieldVals a ++ fieldVals b := by simp [fieldVals]
theorem fieldVals_get : ∀ (l : List FieldD) (j : Nat) (t : FieldD), l[j]? = some t → ∀ (i : Nat) (v : Value), (fieldVs t)[i]? = some v → (fieldVals l)[j * 3 + i]? = some v
  | [], j, t, h, _, _, _ => by simp at h
  | a :: r, 0, t, h, i, v, hv => by
    simp at h
    subst h
    have hi : i < 3 := (List.getElem?_eq_some_iff.1 hv).1
    unfold fieldVals
    rw [List.flatMap_cons, List.getElem?_append_left (by show _ < 3; omega)]
    simpa using hv
  | a :: r, j + 1, t, h, i, v, hv => by
    have := fieldVals_get r j t (by simpa using h) i v hv
    unfold fieldVals at this ⊢
    rw [List.flatMap_cons, List.getElem?_append_right (by show 3 ≤ _; omega)]
    show (List.flatMap fieldVs r)[(j + 1) * 3 + i - 3]? = _
    rw [show (j + 1) * 3 + i - 3 = j * 3 + i by omega]
    exact this
def FieldRow (w : World) (B : Nat) (v : Value) (l : List FieldD) : Prop := w.ownsRow B 81 3 v l.length (fieldVals l)
theorem FieldRow.fieldsIn {w : World} {B : Nat} {v : Value} {l : List FieldD} (h : FieldRow w B v l) : ∃ A c, v = .slice A l.length c ∧ l.length ≤ c ∧ c ≤ 9223372036854775807 ∧ FieldsIn w (fun b => v.ownBlock = some b) A l := by
  have h' := h
  rcases h.2 with ⟨hv, h0⟩ | ⟨g, cap, cur, hv, hB, hg, h1, h2, _⟩
  · have hl : l = [] := List.eq_nil_of_length_eq_zero h0
    subst hl
    exact ⟨none, 0, hv, Nat.le_refl _, by omega, .inl rfl⟩
  · refine ⟨_, cap, hv, h1, by unfold maxLen at h2; omega, .inr ⟨g, 0, rfl, by rw [hv]; rfl, fun j t hj i v' hv' => ?_⟩⟩
    have := World.ownsRow.cells h' (g := g) (by rw [hv]; rfl) (j * 3 + i) v' (fieldVals_get l j t hj i v' hv')
    rw [Addr.add_lit] at this
    rw [← Nat.add_assoc] at this
    exact this
abbrev RecA := RecD × (Option Addr × Nat)
def recVs (p : RecA) : List Value := [.int .i64 p.1.1, .slice p.2.1 p.1.2.length p.2.2]
def recVals (l : List RecA) : List Value := l.flatMap recVs
theorem recVals_app (a b : List RecA) : recVals (a ++ b) = recVals a ++ recVals b := by simp [recVals]
theorem recVals_get : ∀ (l : List RecA) (j : Nat) (t : RecA), l[j]? = some t → ∀ (i : Nat) (v : Value), (recVs t)[i]? = some v → (recVals l)[j * 2 + i]? = some v
  | [], j, t, h, _, _, _ => by simp at h
  | a :: r, 0, t, h, i, v, hv => by
    simp at h
    subst h
    have hi : i < 2 := (List.getElem?_eq_some_iff.1 hv).1
    unfold recVals
    rw [List.flatMap_cons, List.getElem?_append_left (by show _ < 2; omega)]
    simpa using hv
  | a :: r, j + 1, t, h, i, v, hv => by
    have := recVals_get r j t (by simpa using h) i v hv
    unfold recVals at this ⊢
    rw [List.flatMap_cons, List.getElem?_append_right (by show 2 ≤ _; omega)]
    show (List.flatMap recVs r)[(j + 1) * 2 + i - 2]? = _
    rw [show (j + 1) * 2 + i - 2 = j * 2 + i by omega]
    exact this
/-- A slice of records that the call owns; what they lead to lies in the call's own blocks, and not in the slice's. -/
def RecRow (w : World) (B : Nat) (v : Value) (l : List RecD) : Prop := ∃ L : List RecA, L.map (·.1) = l ∧ w.ownsRow B 41 2 v L.length (recVals L) ∧
  ∀ p ∈ L, FieldsIn w (fun b => B ≤ b ∧ b < w.heap.size ∧ v.ownBlock ≠ some b) p.2.1 p.1.2 ∧ p.1.2.length ≤ p.2.2 ∧ p.2.2 ≤ 9223372036854775807
theorem RecRow.recsIn {w : World} {B : Nat} {v : Value} {l : List RecD} (h : RecRow w B v l) : ∃ A c, v = .slice A l.length c ∧ l.length ≤ c ∧ c ≤ 9223372036854775807 ∧ RecsIn w (fun b => B ≤ b ∧ b < w.heap.size) A l := by
  obtain ⟨L, rfl, h, hL⟩ := h
  have h' := h
  have hn : (L.map (·.1)).length = L.length := List.length_map _
  rcases h.2 with ⟨hv, h0⟩ | ⟨g, cap, cur, hv, hB, hg, h1, h2, _⟩
  · have hl : L = [] := List.eq_nil_of_length_eq_zero h0
    subst hl
    exact ⟨none, 0, by rw [hv]; rfl, Nat.le_refl _, by omega, .inl rfl⟩
  · refine ⟨_, cap, by rw [hn]; exact hv, by rw [hn]; exact h1, by unfold maxLen at h2; omega, .inr ⟨g, 0, rfl, ⟨hB, (Array.getElem?_eq_some_iff.1 hg).1⟩, fun j r hj => ?_⟩⟩
    rw [List.getElem?_map] at hj
    obtain ⟨p, hp, rfl⟩ := Option.map_eq_some_iff.1 hj
    obtain ⟨f1, f2, f3⟩ := hL p (List.mem_of_getElem? hp)
    refine ⟨p.2.1, p.2.2, f1.mono (fun b hb => ⟨hb.1, hb.2.1⟩), f2, f3, ?_, ?_⟩
    · have := World.ownsRow.cells h' (g := g) (by rw [hv]; rfl) (j * 2 + 0) _ (recVals_get L j p hp 0 _ rfl)
      rw [Addr.add_lit] at this
      rw [← Nat.add_assoc] at this
      exact this
    · have := World.ownsRow.cells h' (g := g) (by rw [hv]; rfl) (j * 2 + 1) _ (recVals_get L j p hp 1 _ rfl)
      rw [Addr.add_lit] at this
      rw [← Nat.add_assoc] at this
      exact this
end Go.Proofs.YtocmbifljkcmeaaDoor

set_option linter.unusedVariables false
namespace Go.Proofs.YtocmbifljkcmeaaDoor
open Go Go.Proofs Go.RowKit Go.Lib

theorem row_drawn {w : World} {B e z n : Nat} {v : Value} {xs : List Value} (h : w.ownsRow B e z v n xs) (q : Nat) : (w.drewN q).ownsRow B e z v n xs :=
  (Rolled.drawn w.heap.size w q).row h (fun e => by have := (h.lt _ e).2; omega)
/-- What holds while the fields of one record are laid down: the record's box X, whose list owns a row from X + 1 on; below X nothing has turned since wz. -/
structure PIn (X : Nat) (line : Int) (wz w : World) (l : List FieldD) : Prop where
  x : ∃ A c, w.heap[X]? = some (.cells #[.int .i64 line, .slice A l.length c] 41 (0, 0)) ∧ FieldRow w (X + 1) (.slice A l.length c) l
  b : Below X wz w

theorem PIn.snoc {X g7 cap7 k cx : Nat} {line : Int} {wz wr w7 : World} {L0 : List FieldD} {f : FieldD} {Ax : Option Addr} (hb : Below X wz wr) (hxr : wr.ownsRow (X + 1) 81 3 (.slice Ax k cx) k (fieldVals L0)) (hg : wr.grownBy w7 (Value.slice Ax k cx).ownBlock)
    (hx7 : w7.heap[X]? = some (.cells #[.int .i64 line, .slice Ax k cx] 41 (0, 0))) (hown : w7.ownsRow (X + 1) 81 3 (.slice (some ⟨g7, 0, none⟩) (k + 1) cap7) (k + 1) (fieldVals L0 ++ fieldVs f)) (hl : L0.length = k) (hXs : X < wr.heap.size) :
    PIn X line wz (w7.setCell ⟨X, 1, none⟩ (.slice (some ⟨g7, 0, none⟩) (k + 1) cap7)) (L0 ++ [f]) := by
  have hs := hg.size
  have hg2 : w7.grownBy (w7.setCell ⟨X, 1, none⟩ (.slice (some ⟨g7, 0, none⟩) (k + 1) cap7)) (some X) := ⟨by simp [World.setCell], by simp [World.setCell], by simp [World.setCell], by simp [World.setCell], fun j _ hj => Below.heap_setCell w7 ⟨X, 1, none⟩ _ j (fun e => hj (by rw [show j = X from e]))⟩
  have hn : (L0 ++ [f]).length = k + 1 := by simp [hl]
  refine ⟨⟨some ⟨g7, 0, none⟩, cap7, ?_, ?_⟩, ?_⟩
  · rw [hn, heap_setCell_same w7 X 1 _ _ _ hx7]; rfl
  · unfold FieldRow
    rw [hn, fieldVals_app]
    refine World.ownsRow.kept ?_ hg2 (.inr fun e => ?_)
    · simpa [fieldVals] using hown
    · have := (World.ownsRow.lt hown _ e).1
      omega
  · exact (hb.grown hg (by omega) (fun j e => by have := (World.ownsRow.lt hxr j e).1; omega)).grown hg2 (by omega) (fun j e => by injection e; omega)
theorem RecRow.snoc {wz wr w9 : World} {B X n : Nat} {v v' : Value} {l : List RecD} {x : RecD} {Ax : Option Addr} {cx : Nat} {L : List RecA} (hL : L.map (·.1) = l) (ho : wz.ownsRow B 41 2 v n (recVals L))
    (hr : ∀ p ∈ L, FieldsIn wz (fun b => B ≤ b ∧ b < wz.heap.size ∧ v.ownBlock ≠ some b) p.2.1 p.1.2 ∧ p.1.2.length ≤ p.2.2 ∧ p.2.2 ≤ 9223372036854775807) (hn : L.length = n) (hX : wz.heap.size = X) (hBX : B ≤ X) (hb : Below X wz wr)
    (hf : FieldRow wr (X + 1) (.slice Ax x.2.length cx) x.2) (hg : wr.grownBy w9 v.ownBlock) (hat : v'.ownBlock = v.ownBlock ∨ ∃ j, v'.ownBlock = some j ∧ wr.heap.size ≤ j)
    (hown : w9.ownsRow B 41 2 v' (n + 1) (recVals L ++ recVs (x, (Ax, cx)))) : RecRow w9 B v' (l ++ [x]) := by
  have hs := hg.size
  have hbs := hb.size
  have hvl : ∀ g, v.ownBlock = some g → B ≤ g ∧ g < X := fun g e => hX ▸ World.ownsRow.lt ho g e
  have hne : ∀ b, b < wr.heap.size → v.ownBlock ≠ some b → v'.ownBlock ≠ some b := by
    intro b hb hne
    rcases hat with e | ⟨j, e, hj⟩
    · rw [e]; exact hne
    · rw [e]; intro e0; injection e0 with e0; omega
  refine ⟨L ++ [(x, (Ax, cx))], by rw [List.map_append, hL]; rfl, ?_, fun p hp => ?_⟩
  · rw [List.length_append, List.length_singleton, hn, recVals_app]
    simpa [recVals] using hown
  · rcases List.mem_append.1 hp with hp | hp
    · obtain ⟨f1, f2, f3⟩ := hr p hp
      refine ⟨(f1.kept (w' := w9) (fun b hb' => ?_)).mono (fun b hb' => ⟨hb'.1, by omega, hne b (by omega) hb'.2.2⟩), f2, f3⟩
      rw [hg.block b (by omega) (fun e => hb'.2.2 e.symm), hb.block b (by omega)]
    · rw [List.mem_singleton] at hp
      subst hp
      obtain ⟨A5, c5, eA, hl5, hc5, hI5⟩ := hf.fieldsIn
      obtain ⟨rfl, rfl⟩ : Ax = A5 ∧ cx = c5 := by injection eA with e1 _ e3; exact ⟨e1, e3⟩
      have hown5 : ∀ b, (Value.slice Ax x.2.length cx).ownBlock = some b → X + 1 ≤ b ∧ b < wr.heap.size := fun b e => World.ownsRow.lt hf b e
      have hnv : ∀ b, (Value.slice Ax x.2.length cx).ownBlock = some b → v.ownBlock ≠ some b := fun b e e2 => by have := hown5 b e; have := hvl b e2; omega
      refine ⟨(hI5.kept (w' := w9) (fun b hb' => hg.block b (hown5 b hb').2 (fun e => hnv b hb' e.symm))).mono (fun b hb' => ⟨by have := hown5 b hb'; omega, by have := hown5 b hb'; omega, hne b (hown5 b hb').2 (hnv b hb')⟩), hl5, hc5⟩
set_option maxHeartbeats 8000000 in
set_option maxRecDepth 100000 in
theorem plain_any (A : Option Addr) (rows : List (List Str)) (c B : Nat) (w : World) (hB : B ≤ w.heap.size) (h : RowsIn w (fun b => b < B) A rows) (hr : rows.length ≤ 1000000) (hf : ∀ r ∈ rows, r.length ≤ 1000000) (hs : ∀ r ∈ rows, ∀ s ∈ r, s.length ≤ 1000000) :
    Calls Tryd.prog 19 #[.slice A rows.length c] w fun e w' => (∃ v, e = .returned v ∧ RecRow w' w.heap.size v (plainM rows)) ∧ Below w.heap.size w w' := by
  obtain ⟨iF, hiF, hzF, hsF, hbF⟩ := info_parts infoField
  obtain ⟨iR, hiR, hzR, hsR, hbR⟩ := info_parts infoRec
  have HH := hid h
  have HF := hid hf
  have HS := hid hs
  clear h hf hs
  go_enter Tryd.func19, Tryd.ntmps19
  go_wp2
  go_loopw [3, 4, 5, 6, 7] (fun v iv _ _ _ wr => ∃ (i : Nat) (Ao : Option Addr) (no co : Nat), v = .slice Ao no co ∧ iv = .int .i64 (i : Int) ∧ i ≤ rows.length ∧ Hid (RecRow wr w.heap.size (.slice Ao no co) (plainM (rows.take i))) ∧ Hid (Below w.heap.size w wr)) (fun _ iv _ _ _ _ => rows.length - (RowKit.intOf iv).toNat)
  case atStart => exact ⟨0, _, _, _, rfl, rfl, Nat.zero_le _, hid ⟨[], rfl, World.ownsRow_nil _ _ _ _, fun p hp => by simp at hp⟩, hid (Below.refl _ _)⟩
  case round =>
    obtain ⟨i, Ao, no, co, rfl, rfl, hi, hO, hBw⟩ := hrel
    by_cases hlt : i < rows.length
    · have hltz : (i : Int) < (rows.length : Int) := by omega
      have q1 : IntKind.i64.wrap ((i : Int) + 1) = (i : Int) + 1 := IntWalk.i64_in _ (by omega)
      obtain ⟨b1, o1, A1, c1, rfl, hb1, g1, e1, e2, s1⟩ := ((HH.out.mono (fun b hb => Nat.lt_of_lt_of_le hb hB)).below hBw.out).at_ hlt
      have hfl := HF.out _ (List.getElem_mem hlt)
      have hsl := HS.out _ (List.getElem_mem hlt)
      have hst := plainM_take rows i hlt
      obtain ⟨row, hrow⟩ : ∃ r, rows[i] = r := ⟨_, rfl⟩
      rw [hrow] at g1 e1 s1 hfl hsl hst
      have HST := hid hst
      have HSL := hid hsl
      have S1 := hid s1
      have hX0 := heap_alloc_new wr (.cells #[.int .i64 ((i : Int) + 1), .slice none 0 0] 41)
      have hB0 := (Below.refl wr.heap.size wr).alloc (Nat.le_refl _) (.cells #[.int .i64 ((i : Int) + 1), .slice none 0 0] 41)
      have hs0 : (wr.alloc (.cells #[.int .i64 ((i : Int) + 1), .slice none 0 0] 41)).heap.size = wr.heap.size + 1 := by simp
      have HX0 := hid hX0
      have HB0 := hid hB0
      have HS0 := hid hs0
      clear hst hsl s1 hrow hX0 hB0 hs0
      go_wp2_with fail
      generalize wr.alloc (.cells #[.int .i64 ((i : Int) + 1), .slice none 0 0] 41) = wx at HX0 HB0 HS0 ⊢
      have hk0 : PIn wr.heap.size ((i : Int) + 1) wr wx [] := ⟨⟨none, 0, HX0.out, World.ownsRow_nil _ _ _ _⟩, HB0.out⟩
      have hwz := hBw.out.size
      have HK0 := hid hk0
      clear hk0 HX0 HB0 HS0
      generalize hz : wr = wz at *
      obtain ⟨X, hX⟩ : ∃ X, wz.heap.size = X := ⟨_, rfl⟩
      have hbX : b1 < X := by omega
      have HBW := hid hBw.out
      have HO := hid hO.out
      rw [hX] at HK0 hwz ⊢
      clear hz hO hBw
      go_loopw [6, 7] (fun cv kv wr2 => ∃ (k : Nat) (cl : Int), cv = .int .i64 cl ∧ kv = .int .i64 (k : Int) ∧ k ≤ row.length ∧ Hid (cl = colAt 1 (row.take k)) ∧ Hid (PIn X ((i : Int) + 1) wz wr2 (colsM 1 (row.take k)))) (fun _ kv _ => row.length - (RowKit.intOf kv).toNat)
      case atStart => exact ⟨0, 1, rfl, rfl, Nat.zero_le _, hid rfl, hid HK0.out⟩
      case round =>
        obtain ⟨k, cl, rfl, rfl, hk, hcl, hP⟩ := hrel
        obtain ⟨⟨Ax, cx, hxb, hxr⟩, hPb⟩ := hP.out
        have kc : ∀ b o : Nat, b < w.heap.size → wr.cell? ⟨b, o, none⟩ = wz.cell? ⟨b, o, none⟩ := fun b o hb => hPb.cell (p := ⟨b, o, none⟩) (by show b < X; omega)
        have g2 : wr.cell? ⟨b1, o1 + i, none⟩ = some (.slice A1 row.length c1) := by rw [kc b1 _ hb1]; exact g1
        have cx0 : wr.cell? ⟨X, 0, none⟩ = some (.int .i64 ((i : Int) + 1)) := by rw [Lib.cell_of_heap hxb]; rfl
        have cx1 : wr.cell? ⟨X, 1, none⟩ = some (.slice Ax (colsM 1 (row.take k)).length cx) := by rw [Lib.cell_of_heap hxb]; rfl
        have fx1 : wr.frozen? ⟨X, 1, none⟩ = false := by simp [World.frozen?, hxb]
        by_cases hlk : k < row.length
        · have hlkz : (k : Int) < (row.length : Int) := by omega
          obtain ⟨b2, o2, rfl, hb2, g3⟩ := S1.out.at_ hlk
          have hXs : X < wr.heap.size := (Array.getElem?_eq_some_iff.1 hxb).1
          have hb1s : b1 < wr.heap.size := by omega
          have hb2s : b2 < wr.heap.size := by omega
          have g3' : wr.cell? ⟨b2, o2 + k, none⟩ = some (.string (ba row[k])) := by rw [kc b2 _ hb2]; exact g3
          obtain ⟨str, hstr⟩ : ∃ t, row[k] = t := ⟨_, rfl⟩
          rw [hstr] at g3'
          have hnk : (colsM 1 (row.take k)).length = k := by rw [colsM_len, List.length_take]; omega
          have hslen := HSL.out str (by rw [← hstr]; exact List.getElem_mem hlk)
          have hcols : colsM 1 (row.take (k + 1)) = colsM 1 (row.take k) ++ [(str, cl, false)] := by rw [List.take_succ_eq_append_getElem hlk, colsM_app, hstr, hcl.out]; rfl
          have hcl2 : colAt 1 (row.take (k + 1)) = cl + ((str.length : Int) + 1) := by rw [List.take_succ_eq_append_getElem hlk, colAt_snoc, hstr, hcl.out]
          have hclr := colAt_range 1 (row.take k) (fun s hs => HSL.out s (List.mem_of_mem_take hs))
          rw [← hcl.out, List.length_take] at hclr
          unfold FieldRow at hxr
          rw [hnk] at hxr cx1 hxb
          have HXB := hid hxb
          obtain ⟨L0, hL0⟩ : ∃ L0, colsM 1 (row.take k) = L0 := ⟨_, rfl⟩
          rw [hL0] at hxr hcols
          have HXR := hid hxr
          have HM : Hid (k + 1 ≤ maxLen) := hid (by unfold maxLen; omega)
          have HM2 : Hid ((k + 1) * 32 ≤ 140737488355328) := hid (by omega)
          have HCO := hid hcols
          have HC2 := hid hcl2
          have hwq : IntKind.i64.wrap ((k : Int) + 1) = (k : Int) + 1 := IntWalk.i64_in _ (by omega)
          have hsz : (ba str).size = str.length := Lib.size_eq _
          have HL0 : Hid (L0.length = k) := hid (by rw [← hL0]; exact hnk)
          have HPB := hid hPb
          have G3 : Hid (wz.cell? ⟨b2, o2 + k, none⟩ = some (.string (ba str))) := hid (by rw [← hstr]; exact g3)
          clear hxr hcols hcl2 kc g3 hnk hL0
          obtain ⟨z, hzs⟩ : ∃ z, ba str = z := ⟨_, rfl⟩
          rw [hzs] at g3' hsz G3
          have HZS := hid hzs
          clear hzs
          have HFN : Hid (∀ (w : World) (j : Nat) (u : Value), (fieldVs (str, cl, false))[j]? = some u → (w.alloc (.cells #[.string z, .int .i64 cl, .bool false] 81)).cell? ((⟨w.heap.size, 0, none⟩ : Addr).add j) = some u) := hid (fun w j u h => by
            have e := heap_alloc_new w (.cells #[.string z, .int .i64 cl, .bool false] 81)
            rw [Addr.add_lit, Lib.cell_of_heap e]
            match j, h with
            | 0, h => rw [← HZS.out]; exact h
            | 1, h => exact h
            | 2, h => exact h
            | j + 3, h => simp [fieldVs] at h)
          have HF1 : Hid (∀ u ∈ fieldVs (str, cl, false), u.oneCell' = true) := hid (fun u hu => by
            simp [fieldVs] at hu
            rcases hu with rfl | rfl | rfl <;> rfl)
          go_wp2_with fail
          go_region_law (
            (refine step_append_lies _ ?_ (.tmp 27) (.tmp 37) 39 ?_ (X + 1) 81 iF (.agg #[.string ⟨#[]⟩, .int .i64 0, .bool false]) 3 32 Tryd.underlying39 hiF hzF hsF hbF ?_ ?_ (.slice Ax k cx) k (fieldVals L0) ?_ ?_ ⟨wr.heap.size, 0, none⟩ 1 1 (fieldVs (str, cl, false)) ?_ ?_ ?_ ?_ (by decide) HM.out HM2.out ?_ (wr.heap.size + 1) ?_ ?_
             · rfl
             · rfl
             · rfl
             · decide
             · simp [Act.eval]
             · exact row_drawn (World.ownsRow.alloc HXR.out _) 1
             · simp [Act.eval]
             · rfl
             · exact HFN.out wr
             · exact HF1.out
             · simp; omega
             · simp
             intro g7 cap7 w7 hown7 hgrow7 hat7 hlt7
             have HOW := hid hown7
             have HGR := hid hgrow7
             have HAT := hid hat7
             have hgw : wr.grownBy w7 (Value.slice Ax k cx).ownBlock := ⟨hgrow7.os, hgrow7.tape, hgrow7.output, by have := hgrow7.size; simp at this; omega, fun j hj hr => (hgrow7.block j (by simp; omega) hr).trans (Below.heap_alloc wr _ j hj)⟩
             have hx7 : w7.heap[X]? = some (.cells #[.int .i64 ((i : Int) + 1), .slice Ax k cx] 41 (0, 0)) := (hgrow7.block X (by simp; omega) (fun e => by have := (World.ownsRow.lt HXR.out X e.symm).1; omega)).trans ((Below.heap_alloc wr _ X hXs).trans HXB.out)
             have c71 : w7.cell? ⟨X, 1, none⟩ = some (.slice Ax k cx) := by rw [Lib.cell_of_heap hx7]; rfl
             have f71 : w7.frozen? ⟨X, 1, none⟩ = false := by simp [World.frozen?, hx7]
             have HX7 := hid hx7
             have hP8 := PIn.snoc HPB.out HXR.out hgw hx7 hown7 HL0.out hXs
             have HP8 := hid hP8
             clear hown7 hgrow7 hat7 hx7 hgw hP8 HGR HOW HAT HX7))
          all_goals
            obtain ⟨w8, h8⟩ : ∃ w8, w7.setCell ⟨X, 1, none⟩ (.slice (some ⟨g7, 0, none⟩) (k + 1) cap7) = w8 := ⟨_, rfl⟩
            rw [h8] at HP8 ⊢
            clear h8
            have kc8 : ∀ b o : Nat, b < w.heap.size → w8.cell? ⟨b, o, none⟩ = wz.cell? ⟨b, o, none⟩ := fun b o hb => HP8.out.b.cell (p := ⟨b, o, none⟩) (by show b < X; omega)
            have g28 : w8.cell? ⟨b1, o1 + i, none⟩ = some (.slice (some ⟨b2, o2, none⟩) row.length c1) := by rw [kc8 b1 _ hb1]; exact g1
            have g38 : w8.cell? ⟨b2, o2 + k, none⟩ = some (.string z) := by rw [kc8 b2 _ hb2]; exact G3.out
            have hq1 : IntKind.i64.wrap ((z.size : Int) + 1) = (z.size : Int) + 1 := IntWalk.i64_in _ (by omega)
            have hq2 : IntKind.i64.wrap (cl + ((z.size : Int) + 1)) = cl + ((z.size : Int) + 1) := IntWalk.i64_in _ (by omega)
            clear kc8
            go_wp2
            refine ⟨⟨k + 1, _, rfl, by go_num, by omega, hid HC2.out.symm, hid ?_⟩, by simp [RowKit.intOf]; omega⟩
            rw [HCO.out]
            exact HP8.out
        · have hkr : k = row.length := by omega
          subst hkr
          rw [List.take_of_length_le (Nat.le_refl _)] at hcl hxr hxb cx1
          rw [colsM_len] at cx1 hxb hxr
          have hlkz : ¬ ((row.length : Int) < (row.length : Int)) := by omega
          have hXs : X < wr.heap.size := (Array.getElem?_eq_some_iff.1 hxb).1
          have hb1s : b1 < wr.heap.size := by omega
          obtain ⟨L, hL, ho, hr⟩ := HO.out
          have hLl : L.length = i := by
            have := congrArg List.length hL
            rw [List.length_map, plainM_len, List.length_take] at this
            omega
          have hno : no = i := by
            rcases ho.2 with ⟨hv, h0⟩ | ⟨g, cap, cur, hv, _⟩
            · injection hv with _ h1 _; omega
            · injection hv with _ h1 _; omega
          subst hno
          rw [hLl] at ho
          have ho2 : wr.ownsRow w.heap.size 41 2 (.slice Ao no co) no (recVals L) := row_under ho (by rw [hX]; exact hPb)
          have HO2 := hid ho2
          have HL := hid hL
          have HLl := hid hLl
          have HRR := hid hr
          have HOZ := hid ho
          have HM : Hid (no + 1 ≤ maxLen) := hid (by unfold maxLen; omega)
          have HM2 : Hid ((no + 1) * 32 ≤ 140737488355328) := hid (by omega)
          have HXR := hid hxr
          have HPB := hid hPb
          have HSZ : Hid (∀ o : Obj, w.heap.size ≤ (wr.alloc o).heap.size) := hid (fun o => by simp; omega)
          have HNW : Hid (∀ (j : Nat) (u : Value), ([Value.int .i64 ((no : Int) + 1), .slice Ax row.length cx] : List Value)[j]? = some u → (wr.alloc (.cells #[.int .i64 ((no : Int) + 1), .slice Ax row.length cx] 41)).cell? ((⟨wr.heap.size, 0, none⟩ : Addr).add j) = some u) := hid (fun j u h => by
            have e := heap_alloc_new wr (.cells #[.int .i64 ((no : Int) + 1), .slice Ax row.length cx] 41)
            rw [Addr.add_lit, Lib.cell_of_heap e]
            match j, h with
            | 0, h => exact h
            | 1, h => exact h
            | j + 2, h => simp at h)
          have HN1 : Hid (∀ u ∈ ([Value.int .i64 ((no : Int) + 1), .slice Ax row.length cx] : List Value), u.oneCell' = true) := hid (fun u hu => by
            simp at hu
            rcases hu with rfl | rfl <;> rfl)
          clear ho2 hL hr ho hxr hPb hLl kc
          go_wp2_with (at_builtin; refine wpList_append_own_at _ rfl _ _ 38 rfl w.heap.size 41 iR (.agg #[.int .i64 0, .slice none 0 0]) 2 32 Tryd.underlying38 hiR hzR hsR hbR rfl (by decide) _ no (recVals L) rfl (World.ownsRow.alloc HO2.out _) ⟨wr.heap.size, 0, none⟩ 1 1 [.int .i64 ((no : Int) + 1), .slice Ax row.length cx] rfl rfl HNW.out HN1.out HM.out HM2.out (HSZ.out _) ?_)
          intro v' w9 hown9 hgrow9 hnil9 hat9
          obtain ⟨g', cap', rfl⟩ := ownsRow_succ (k := no) hown9
          have hg9 := grownBy_of_alloc hgrow9
          have hrv : recVs ((((no : Int) + 1, colsM 1 row), (Ax, cx)) : RecA) = [.int .i64 ((no : Int) + 1), .slice Ax row.length cx] := by simp [recVs, colsM_len]
          have hsn := RecRow.snoc (x := ((no : Int) + 1, colsM 1 row)) HL.out HOZ.out HRR.out HLl.out hX (by omega) HPB.out (by have h := HXR.out; rw [← colsM_len 1 row] at h; exact h) hg9 (hat9.imp id (fun h => ⟨_, h, by simp⟩)) (by rw [hrv]; exact hown9)
          rw [← HST.out] at hsn
          have hb9 : Below w.heap.size w w9 := (HBW.out.trans (HPB.out.mono (by omega))).grown hg9 (by omega) (fun j e => by have := (World.ownsRow.lt HO2.out j e).1; omega)
          have HSN := hid hsn
          have HB9 := hid hb9
          clear hsn hb9 hg9 hown9 hgrow9 hnil9 hat9 hrv
          go_wp2
          exact ⟨⟨no + 1, _, _, _, rfl, by go_num, by omega, HSN, HB9⟩, by simp [RowKit.intOf]; omega⟩
    · have hltz : ¬ (i : Int) < (rows.length : Int) := by omega
      have HO2 : Hid (RecRow wr w.heap.size (.slice Ao no co) (plainM rows)) := hid (by have := hO.out; rwa [List.take_of_length_le (by omega)] at this)
      go_wp2
      go_ret
      exact ⟨⟨_, rfl, HO2.out⟩, hBw.out⟩
end Go.Proofs.YtocmbifljkcmeaaDoor

set_option linter.unusedVariables false
namespace Go.Proofs.YtocmbifljkcmeaaDoor
open Go Go.Proofs Go.RowKit Go.Lib

theorem betw_in (l : List Str) (R : List (List Int)) (a b : Str) (i k : Nat) (hab : a ≠ b) (hi : plc l a = (i : Int)) (hk : plc l b = (k : Int)) (h1 : i < R.length) (h2 : k < (R.getD i []).length) :
    betwM (l, R) a b = if at2 R i k = -1 then 0 else at2 R i k := by
  unfold betwM
  dsimp only
  rw [hi, hk, Int.toNat_natCast, Int.toNat_natCast, if_neg (by rintro (h | h | h | h | h); exact hab h; all_goals omega)]
theorem betw_out (l : List Str) (R : List (List Int)) (a b : Str) (h : a = b ∨ plc l a < 0 ∨ plc l b < 0 ∨ (R.length : Int) ≤ plc l a ∨ ((R.getD (plc l a).toNat []).length : Int) ≤ plc l b) : betwM (l, R) a b = 0 := by
  unfold betwM
  dsimp only
  rw [if_pos h]
set_option maxHeartbeats 8000000 in
set_option maxRecDepth 100000 in
theorem tbetw_any (A S : Option Addr) (l : List Str) (R : List (List Int)) (c d : Nat) (x y : ByteArray) (w : World) (h : TravIn w (fun b => b < w.heap.size) A S (l, R)) (h63 : l.length ≤ 9223372036854775807) (h64 : R.length ≤ 9223372036854775807) :
    Calls Tryd.prog 14 #[.agg #[.slice A l.length c, .slice S R.length d], .string x, .string y] w (Says (.int .i64 (betwM (l, R) (lst x) (lst y))) w) := by
  unfold Says
  have hk := KT.first w (.slice A l.length c) (.slice S R.length d) 25
  have hin : TravIn (w.alloc (.cells #[.slice A l.length c, .slice S R.length d] 25)) (fun b => b < w.heap.size) A S (l, R) := h.below hk.b
  have cI : ∀ (z : ByteArray) (q : Nat), Calls Tryd.prog 35 #[.slice A l.length c, .string z] ((w.alloc (.cells #[.slice A l.length c, .slice S R.length d] 25)).drewN q) fun e w' => e = .returned (.int .i64 (plc l (lst z))) ∧ ∃ q', w' = ((w.alloc (.cells #[.slice A l.length c, .slice S R.length d] 25)).drewN q).drewN q' :=
    fun z q => (index_any A l c z _ _ (drewN_stays' hin.b q) h63).mono fun e w' ⟨he, hw⟩ => ⟨he, 0, hw.symm⟩
  have hs := hin.s
  have HB := hid hk.b
  have HDR := hid (fun q => (hk.drawn q).b)
  obtain ⟨x0, x1, _, _⟩ := hk
  have hx := plc_spec l (lst x)
  have hy := plc_spec l (lst y)
  have HIN := betw_in l R (lst x) (lst y)
  have HOUT := betw_out l R (lst x) (lst y)
  obtain ⟨ANS, hANS⟩ : ∃ ANS, betwM (l, R) (lst x) (lst y) = ANS := ⟨_, rfl⟩
  rw [hANS] at HIN HOUT ⊢
  have cX := cI x
  have cY := cI y
  obtain ⟨px, hpx⟩ : ∃ p, plc l (lst x) = p := ⟨_, rfl⟩
  obtain ⟨py, hpy⟩ : ∃ p, plc l (lst y) = p := ⟨_, rfl⟩
  rw [hpx] at cX hx HIN HOUT
  rw [hpy] at cY hy HIN HOUT
  have CX := hid cX
  have CY := hid cY
  obtain ⟨L, hL⟩ : ∃ L, l.length = L := ⟨_, rfl⟩
  rw [hL] at x0 CX CY HB HDR hs
  rw [hL]
  obtain ⟨NR, hNR⟩ : ∃ n, R.length = n := ⟨_, rfl⟩
  have hbe : (x.toList == y.toList) = decide (lst x = lst y) := by
    have e1 : x.toList = lst x := Lib.toList_data x
    have e2 : y.toList = lst y := Lib.toList_data y
    rw [e1, e2, Bool.eq_iff_iff]
    simp
  clear cI cX cY hin h hANS hpx hpy hL h63
  by_cases hxy : lst x = lst y
  · obtain rfl := HOUT (.inl hxy)
    rw [decide_eq_true hxy] at hbe
    clear HIN HOUT hx hy hs hNR hxy
    go_enter Tryd.func14, Tryd.ntmps14
    go_wp2
    go_quiet ((go_at_call 35; first | with_reducible refine Calls.quiet_of (CX.out _) | with_reducible refine Calls.quiet_of (CY.out _)))
    go_wp2
    go_ret
    exact ⟨rfl, HDR.out _⟩
  · rw [decide_eq_false hxy] at hbe
    rcases hx with ⟨rfl, _⟩ | ⟨i, rfl, hi, _⟩
    · obtain rfl := HOUT (.inr (.inl (by omega)))
      clear HIN HOUT hy hs hNR hxy
      go_enter Tryd.func14, Tryd.ntmps14
      go_wp2
      go_quiet ((go_at_call 35; first | with_reducible refine Calls.quiet_of (CX.out _) | with_reducible refine Calls.quiet_of (CY.out _)))
      go_wp2
      go_ret
      exact ⟨rfl, HDR.out _⟩
    · have hi0 : ¬ (i : Int) < 0 := by omega
      rcases hy with ⟨rfl, _⟩ | ⟨k, rfl, hk, _⟩
      · obtain rfl := HOUT (.inr (.inr (.inl (by omega))))
        clear HIN HOUT hs hNR hxy
        go_enter Tryd.func14, Tryd.ntmps14
        go_wp2
        go_quiet ((go_at_call 35; first | with_reducible refine Calls.quiet_of (CX.out _) | with_reducible refine Calls.quiet_of (CY.out _)))
        go_wp2
        go_ret
        exact ⟨rfl, HDR.out _⟩
      · have hk0 : ¬ (k : Int) < 0 := by omega
        by_cases hir : i < R.length
        · have hiz : ¬ (R.length : Int) ≤ (i : Int) := by omega
          have d1 : decide (R.length ≤ i) = false := decide_eq_false (by omega)
          obtain ⟨b1, o1, A1, c1, rfl, hb1, y1, _, _, hnum⟩ := hs.at_ hir
          by_cases hkr : k < (R.getD i []).length
          · have hv := HIN i k hxy rfl rfl hir hkr
            obtain ⟨b2, o2, rfl, hb2, y2⟩ := hnum.at_ hkr
            have ea : (R.getD i []).getD k 0 = at2 R i k := rfl
            rw [ea] at y2
            have hkz : ¬ ((R.getD i []).length : Int) ≤ (k : Int) := by omega
            have d2 : decide ((R.getD i []).length ≤ k) = false := decide_eq_false (by omega)
            obtain ⟨v, hvv⟩ : ∃ v, at2 R i k = v := ⟨_, rfl⟩
            rw [hvv] at hv y2
            generalize (R.getD i []).length = NI at y1 hkz d2 hkr hnum
            rw [hNR] at hiz d1 x1 CX CY HB HDR y1 y2 hir
            rw [hNR]
            clear HIN HOUT hnum hs hxy ea hvv hNR hi hk hir hkr
            by_cases hm : v = -1
            · have hmb : (v == -1) = true := by simp [hm]
              rw [if_pos hm] at hv
              subst hv
              clear hm
              go_enter Tryd.func14, Tryd.ntmps14
              go_wp2
              go_quiet ((go_at_call 35; first | with_reducible refine Calls.quiet_of (CX.out _) | with_reducible refine Calls.quiet_of (CY.out _)))
              go_wp2
              go_ret
              exact ⟨rfl, HDR.out _⟩
            · have hmb : (v == -1) = false := by simp [hm]
              rw [if_neg hm] at hv
              subst hv
              clear hm
              go_enter Tryd.func14, Tryd.ntmps14
              go_wp2
              go_quiet ((go_at_call 35; first | with_reducible refine Calls.quiet_of (CX.out _) | with_reducible refine Calls.quiet_of (CY.out _)))
              go_wp2
              go_ret
              exact ⟨rfl, HDR.out _⟩
          · have hkz : ((R.getD i []).length : Int) ≤ (k : Int) := by omega
            obtain rfl := HOUT (.inr (.inr (.inr (.inr (by rw [Int.toNat_natCast]; exact hkz)))))
            have hkz2 : ¬ ((k : Int) < ((R.getD i []).length : Int)) := by omega
            generalize (R.getD i []).length = NI at y1 hkz hkz2
            rw [hNR] at hiz d1 x1 CX CY HB HDR y1 hir
            rw [hNR]
            clear HIN HOUT hnum hs hxy hNR hi hk hir hkr
            go_enter Tryd.func14, Tryd.ntmps14
            go_wp2
            go_quiet ((go_at_call 35; first | with_reducible refine Calls.quiet_of (CX.out _) | with_reducible refine Calls.quiet_of (CY.out _)))
            go_wp2
            go_ret
            exact ⟨rfl, HDR.out _⟩
        · have hiz : (R.length : Int) ≤ (i : Int) := by omega
          obtain rfl := HOUT (.inr (.inr (.inr (.inl hiz))))
          rw [hNR] at hiz x1 CX CY HB HDR hir
          rw [hNR]
          clear HIN HOUT hs hxy hNR hi hk hir
          go_enter Tryd.func14, Tryd.ntmps14
          go_wp2
          go_quiet ((go_at_call 35; first | with_reducible refine Calls.quiet_of (CX.out _) | with_reducible refine Calls.quiet_of (CY.out _)))
          go_wp2
          go_ret
          exact ⟨rfl, HDR.out _⟩
end Go.Proofs.YtocmbifljkcmeaaDoor

set_option linter.unusedVariables false
namespace Go.Proofs.YtocmbifljkcmeaaDoor
open Go Go.Proofs Go.RowKit Go.Lib

def aw8Rows : List (List Str) := [[[65], [66], [49]], [[66], [67], [50]]]
def aw8T : TabD := ([[65], [66], [67]], [[0, 1, -1], [1, 0, 2], [-1, 2, 0]])
def aw8C : TabD := ([[65], [66], [67]], [[0, 1, 3], [1, 0, 2], [3, 2, 0]])
theorem aw8Read : readT (plainM aw8Rows) = (aw8T, []) := by kernel_rfl
theorem aw8Close : closeM aw8T = (aw8C, 0) := by kernel_rfl
theorem aw8B1 : betwM aw8T [65] [67] = 0 := by kernel_rfl
theorem aw8B2 : betwM aw8C [65] [67] = 3 := by kernel_rfl
theorem aw8B3 : betwM aw8C [67] [66] = 2 := by kernel_rfl
theorem aw8_rows (w : World) : ∃ w2, w2 = ((w.alloc (.cells #[.string ⟨#[65]⟩, .string ⟨#[66]⟩, .string ⟨#[49]⟩] 9)).alloc (.cells #[.string ⟨#[66]⟩, .string ⟨#[67]⟩, .string ⟨#[50]⟩] 9)).alloc (.cells #[.slice (some ⟨w.heap.size, 0, none⟩) 3 3, .slice (some ⟨w.heap.size + 1, 0, none⟩) 3 3] 22) ∧
    RowsIn w2 (fun k => k < w.heap.size + 3) (some ⟨w.heap.size + 2, 0, none⟩) aw8Rows ∧ Below w.heap.size w w2 ∧ w2.heap.size = w.heap.size + 3 := by
  refine ⟨_, rfl, ?_, (((Below.refl _ w).alloc (Nat.le_refl _) _).alloc (by simp) _).alloc (by simp; omega) _, by simp⟩
  have e1 := heap_alloc_new w (.cells #[.string ⟨#[65]⟩, .string ⟨#[66]⟩, .string ⟨#[49]⟩] 9)
  have hs1 : (w.alloc (.cells #[.string ⟨#[65]⟩, .string ⟨#[66]⟩, .string ⟨#[49]⟩] 9)).heap.size = w.heap.size + 1 := by simp
  generalize w.alloc (.cells #[.string ⟨#[65]⟩, .string ⟨#[66]⟩, .string ⟨#[49]⟩] 9) = w1 at e1 hs1 ⊢
  have e2 := heap_alloc_new w1 (.cells #[.string ⟨#[66]⟩, .string ⟨#[67]⟩, .string ⟨#[50]⟩] 9)
  have hs2 : (w1.alloc (.cells #[.string ⟨#[66]⟩, .string ⟨#[67]⟩, .string ⟨#[50]⟩] 9)).heap.size = w1.heap.size + 1 := by simp
  have f1 := (Below.heap_alloc w1 (.cells #[.string ⟨#[66]⟩, .string ⟨#[67]⟩, .string ⟨#[50]⟩] 9) w.heap.size (by omega)).trans e1
  generalize w1.alloc (.cells #[.string ⟨#[66]⟩, .string ⟨#[67]⟩, .string ⟨#[50]⟩] 9) = w2 at e2 hs2 f1 ⊢
  rw [hs1] at e2
  have e3 := heap_alloc_new w2 (.cells #[.slice (some ⟨w.heap.size, 0, none⟩) 3 3, .slice (some ⟨w.heap.size + 1, 0, none⟩) 3 3] 22)
  have g1 := (Below.heap_alloc w2 (.cells #[.slice (some ⟨w.heap.size, 0, none⟩) 3 3, .slice (some ⟨w.heap.size + 1, 0, none⟩) 3 3] 22) w.heap.size (by omega)).trans f1
  have g2 := (Below.heap_alloc w2 (.cells #[.slice (some ⟨w.heap.size, 0, none⟩) 3 3, .slice (some ⟨w.heap.size + 1, 0, none⟩) 3 3] 22) (w.heap.size + 1) (by omega)).trans e2
  rw [show w2.heap.size = w.heap.size + 2 by omega] at e3
  refine .inr ⟨w.heap.size + 2, 0, rfl, by omega, fun j l hj => ?_⟩
  match j, hj with
  | 0, hj =>
    obtain rfl : [[65], [66], [49]] = l := by simpa [aw8Rows] using hj
    refine ⟨some ⟨w.heap.size, 0, none⟩, 3, by rw [Lib.cell_of_heap e3]; rfl, by decide, by decide, .inr ⟨w.heap.size, 0, rfl, by omega, fun j s hj => ?_⟩⟩
    match j, hj with
    | 0, hj => obtain rfl : [65] = s := by simpa using hj
               rw [Lib.cell_of_heap g1]; rfl
    | 1, hj => obtain rfl : [66] = s := by simpa using hj
               rw [Lib.cell_of_heap g1]; rfl
    | 2, hj => obtain rfl : [49] = s := by simpa using hj
               rw [Lib.cell_of_heap g1]; rfl
    | j + 3, hj => simp at hj
  | 1, hj =>
    obtain rfl : [[66], [67], [50]] = l := by simpa [aw8Rows] using hj
    refine ⟨some ⟨w.heap.size + 1, 0, none⟩, 3, by rw [Lib.cell_of_heap e3]; rfl, by decide, by decide, .inr ⟨w.heap.size + 1, 0, rfl, by omega, fun j s hj => ?_⟩⟩
    match j, hj with
    | 0, hj => obtain rfl : [66] = s := by simpa using hj
               rw [Lib.cell_of_heap g2]; rfl
    | 1, hj => obtain rfl : [67] = s := by simpa using hj
               rw [Lib.cell_of_heap g2]; rfl
    | 2, hj => obtain rfl : [50] = s := by simpa using hj
               rw [Lib.cell_of_heap g2]; rfl
    | j + 3, hj => simp at hj
  | j + 2, hj => simp [aw8Rows] at hj
set_option maxHeartbeats 16000000 in
set_option maxRecDepth 100000 in
theorem awake8_any (w : World) (hE : Env8 w) : Calls Tryd.prog 5 #[] w (Says (.bool true) w) := by
  obtain ⟨w2, hw2, hrows, hb2, hs2⟩ := aw8_rows w
  have cP := plain_any (some ⟨w.heap.size + 2, 0, none⟩) aw8Rows 2 (w.heap.size + 3) w2 (by omega) hrows (by decide) (by decide) (by decide)
  have CP := hid cP
  have HB2 := hid hb2
  clear cP hb2 hrows
  unfold Says
  go_enter Tryd.func5, Tryd.ntmps5
  go_wp2_with fail
  (try rw [← hw2])
  refine CP.out.mono ?_
  rintro e w3 ⟨⟨v, rfl, hrr⟩, hb3⟩
  obtain ⟨A3, c3, rfl, hl3, hc3, hrin⟩ := hrr.recsIn
  have hB3 : Below w.heap.size w w3 := HB2.out.trans (hb3.mono HB2.out.size)
  have cR := read8_any A3 (plainM aw8Rows) c3 w3 (hrin.mono (fun k hk => hk.2)) (by rw [plainM_len]; decide) (hE.below hB3 hE.size)
  rw [aw8Read, plainM_len] at cR
  rw [plainM_len]
  unfold ReadOut8 at cR
  have CR := hid cR
  have HB3 := hid hB3
  clear cR CP hw2 hB3 hb3 hrr hrin hl3 hE HB2
  go_wp2_with fail
  refine CR.out.mono ?_
  rintro e w4 ⟨⟨A, c, S, d, v2, rfl, hT, hc1, hc2, hpr⟩, hb4⟩
  have hv2 : ∃ A5 c5, v2 = .slice A5 0 c5 := by
    rcases hpr.2 with ⟨hv, _⟩ | ⟨g, cap, cur, hv, _⟩
    · exact ⟨_, _, hv⟩
    · exact ⟨_, _, hv⟩
  obtain ⟨A5, c5, rfl⟩ := hv2
  have hb5 := (Below.refl w4.heap.size w4).alloc (Nat.le_refl _) (.cells #[.slice A aw8T.1.length c, .slice S aw8T.2.length d] 25)
  have hx5 := Box2.new w4 25 (.slice A aw8T.1.length c) (.slice S aw8T.2.length d)
  have hB4 : Below w.heap.size w w4 := HB3.out.trans (hb4.mono HB3.out.size)
  have hT4 : TravIn w4 (fun b => b < w4.heap.size) A S aw8T := hT.mono (fun b hb => hb.2)
  have hs5 : (w4.alloc (.cells #[.slice A aw8T.1.length c, .slice S aw8T.2.length d] 25)).heap.size = w4.heap.size + 1 := by simp
  obtain ⟨w5, hw5⟩ : ∃ W, w4.alloc (.cells #[.slice A aw8T.1.length c, .slice S aw8T.2.length d] 25) = W := ⟨_, rfl⟩
  rw [hw5] at hb5 hx5 hs5
  have hT5 : TravIn w5 (fun b => b < w4.heap.size) A S aw8T := hT4.below hb5
  have cC := tclose_any A S aw8T.1 aw8T.2 c d w5 (hT5.mono (fun b hb => by omega)) hc1 hc2 (by decide)
  rw [show (aw8T.1, aw8T.2) = aw8T from rfl, aw8Close] at cC
  unfold CloseOut at cC
  have hT5h := hid hT5
  have CC := hid cC
  have HX5 := hid hx5
  have HB5 := hid (hB4.trans (hb5.mono hB4.size))
  have HS5 := hid hs5
  have y0 := hx5.c0
  have y1 := hx5.c1
  clear cC hT5 hx5 hb5 hB4 hT4 hs5 hT hpr hb4 HB3 CR hc1 hc2
  go_wp2_with fail
  (try rw [hw5])
  clear hw5
  refine CC.out.mono ?_
  rintro e w6 ⟨⟨A6, c6, S6, d6, rfl, hT6⟩, hb6⟩
  have hb7 := (Below.refl w6.heap.size w6).alloc (Nat.le_refl _) (.cells #[.slice A6 aw8C.1.length c6, .slice S6 aw8C.2.length d6] 25)
  have hx7 := Box2.new w6 25 (.slice A6 aw8C.1.length c6) (.slice S6 aw8C.2.length d6)
  have hs7 : (w6.alloc (.cells #[.slice A6 aw8C.1.length c6, .slice S6 aw8C.2.length d6] 25)).heap.size = w6.heap.size + 1 := by simp
  obtain ⟨w7, hw7⟩ : ∃ W, w6.alloc (.cells #[.slice A6 aw8C.1.length c6, .slice S6 aw8C.2.length d6] 25) = W := ⟨_, rfl⟩
  rw [hw7] at hb7 hx7 hs7
  have hb57 : Below w5.heap.size w5 w7 := hb6.trans (hb7.mono hb6.size)
  have hs67 := hb6.size
  have hT7 : TravIn w7 (fun b => b < w7.heap.size) A S aw8T := (hT5h.out.kept (fun b hb => hb57.block b (by have := HS5.out; omega))).mono (fun b hb => by have := HS5.out; have := hb57.size; omega)
  have hC7 : TravIn w7 (fun b => b < w7.heap.size) A6 S6 aw8C := (hT6.kept (fun b hb => hb7.block b hb.2)).mono (fun b hb => by omega)
  have hX57 := HX5.out.next hb57
  have hB1 : ∀ W, Below w7.heap.size w7 W → Calls Tryd.prog 14 #[.agg #[.slice A aw8T.1.length c, .slice S aw8T.2.length d], .string ⟨#[65]⟩, .string ⟨#[67]⟩] W fun e w' => e = .returned (.int .i64 0) ∧ Below W.heap.size W w' := fun W hW => by
    have h := tbetw_any A S aw8T.1 aw8T.2 c d ⟨#[65]⟩ ⟨#[67]⟩ W ((hT7.below hW).mono (fun b hb => Nat.lt_of_lt_of_le hb hW.size)) (by decide) (by decide)
    rw [show (aw8T.1, aw8T.2) = aw8T from rfl, show lst ⟨#[65]⟩ = [65] from rfl, show lst ⟨#[67]⟩ = [67] from rfl, aw8B1] at h
    exact h
  have hB2 : ∀ W, Below w7.heap.size w7 W → Calls Tryd.prog 14 #[.agg #[.slice A6 aw8C.1.length c6, .slice S6 aw8C.2.length d6], .string ⟨#[65]⟩, .string ⟨#[67]⟩] W fun e w' => e = .returned (.int .i64 3) ∧ Below W.heap.size W w' := fun W hW => by
    have h := tbetw_any A6 S6 aw8C.1 aw8C.2 c6 d6 ⟨#[65]⟩ ⟨#[67]⟩ W ((hC7.below hW).mono (fun b hb => Nat.lt_of_lt_of_le hb hW.size)) (by decide) (by decide)
    rw [show (aw8C.1, aw8C.2) = aw8C from rfl, show lst ⟨#[65]⟩ = [65] from rfl, show lst ⟨#[67]⟩ = [67] from rfl, aw8B2] at h
    exact h
  have hB3 : ∀ W, Below w7.heap.size w7 W → Calls Tryd.prog 14 #[.agg #[.slice A6 aw8C.1.length c6, .slice S6 aw8C.2.length d6], .string ⟨#[67]⟩, .string ⟨#[66]⟩] W fun e w' => e = .returned (.int .i64 2) ∧ Below W.heap.size W w' := fun W hW => by
    have h := tbetw_any A6 S6 aw8C.1 aw8C.2 c6 d6 ⟨#[67]⟩ ⟨#[66]⟩ W ((hC7.below hW).mono (fun b hb => Nat.lt_of_lt_of_le hb hW.size)) (by decide) (by decide)
    rw [show (aw8C.1, aw8C.2) = aw8C from rfl, show lst ⟨#[67]⟩ = [67] from rfl, show lst ⟨#[66]⟩ = [66] from rfl, aw8B3] at h
    exact h
  have HC1 := hid hB1
  have HC2 := hid hB2
  have HC3 := hid hB3
  have HX57 := hid hX57
  have HX7 := hid hx7
  have HBW7 := hid (HB5.out.trans (hb57.mono HB5.out.size))
  have q0 := hX57.c0
  have q1 := hX57.c1
  obtain ⟨x0, hx0⟩ : ∃ v, Value.slice A aw8T.1.length c = v := ⟨_, rfl⟩
  clear hx0 x0
  clear hB1 hB2 hB3 hX57 hx7 hb7 hs7 hT7 hC7 hb57 hs67 hT6 hb6 hT5h CC HX5 y0 y1
  go_upto_region 3 with fail
  (try rw [hw7])
  clear hw7
  go_wp2_with fail
  refine (HC1.out _ (Below.refl _ _)).mono ?_
  rintro e w8 ⟨rfl, hb8⟩
  have z0 := (HX7.out.next hb8).c0
  have z1 := (HX7.out.next hb8).c1
  have HB8 := hid hb8
  clear hb8 q0 q1
  go_wp2_with fail
  refine (HC2.out _ HB8.out).mono ?_
  rintro e w9 ⟨rfl, hb9⟩
  have hb79 := HB8.out.trans (hb9.mono HB8.out.size)
  have p0 := (HX7.out.next hb79).c0
  have p1 := (HX7.out.next hb79).c1
  have HB9 := hid hb79
  clear hb9 hb79 z0 z1
  go_wp2_with fail
  refine (HC3.out _ HB9.out).mono ?_
  rintro e w10 ⟨rfl, hb10⟩
  have HB10 := hid (HBW7.out.trans ((HB9.out.trans (hb10.mono HB9.out.size)).mono HBW7.out.size))
  clear hb10 p0 p1
  go_wp2
  go_ret
  exact ⟨rfl, HB10.out⟩
end Go.Proofs.YtocmbifljkcmeaaDoor

set_option linter.unusedVariables false
set_option maxRecDepth 100000
namespace Go.Proofs.YtocmbifljkcmeaaDoor
open Go Go.Proofs Go.ChangeShapes Go.WideShapes Go.ChangeAt Go.RowKit Go.Lib Go.Deep

section
variable {H : Type} {enc : TypeId × Value → H} {W : World}
/-- A slice of elements that read as said. -/
theorem open_list {T e : TypeId} {z : Nat} (ht : Tryd.prog.underlying T = some (.slice e)) (hz : Tryd.prog.cellsOf e = z) (hz0 : 0 < z) {α : Type} [Inhabited α] (cells : α → List Value) (Ok : α → DataW H → Prop) (hcl : ∀ a, (cells a).length = z)
    (each : ∀ n cs x, DataW.trod enc Tryd.prog W 0 (fun _ => true) true n e cs = some x → ∃ a, cs = cells a ∧ Ok a x.1) {fuel : Nat} {v : Value} {x : DataW H × List MemPlace} (hf : DataW.trod enc Tryd.prog W 0 (fun _ => true) true fuel T [v] = some x) :
    ∃ (A : Option Addr) (l : List α) (c : Nat), v = .slice A l.length c ∧ l.length ≤ c ∧ c ≤ maxLen ∧
      (l = [] ∨ ∃ b off, A = some ⟨b, off, none⟩ ∧ b < W.heap.size ∧ ∀ (j : Nat) (a : α), l[j]? = some a → ∀ (i : Nat) (u : Value), (cells a)[i]? = some u → W.cell? ⟨b, off + j * z + i, none⟩ = some u) ∧
      ∃ ds rest : List (DataW H), (x.1 = .slice ds rest ∨ (x.1 = .nil ∧ ds = [])) ∧ ds.length = l.length ∧ ∀ (j : Nat) (a : α), l[j]? = some a → ∃ d, ds[j]? = some d ∧ Ok a d := by
  rcases open_slice ht hf with ⟨hcs, rfl⟩ | ⟨a, len, cap, m, n, D, Pl, hcs, _, hl, hm, hmm, rfl, hx⟩
  · simp at hcs
    subst hcs
    exact ⟨none, [], 0, rfl, Nat.le_refl _, by unfold maxLen; omega, .inl rfl, [], [], .inr ⟨rfl, rfl⟩, rfl, fun j a h => by simp at h⟩
  · simp at hcs
    subst hcs
    have hmc : m = cap := by simpa using hmm
    rw [hz] at hx
    obtain ⟨F, hF⟩ := choose_lt (α := α) (p := fun i y => W.cells? 0 (a.add (i * z)) z = some (cells y) ∧ Ok y (D i)) (n := m) (fun i hi => by
      obtain ⟨cs', h1, h2⟩ := hx i hi
      obtain ⟨y, rfl, h3⟩ := each _ _ _ h2
      exact ⟨y, h1, h3⟩)
    refine ⟨some a, (List.range len).map F, cap, by simp, by simpa using hl, hm, ?_, (List.range len).map D, _, .inl rfl, by simp, fun j y hj => ?_⟩
    · rcases Nat.eq_zero_or_pos len with h0 | h0
      · subst h0; exact .inl rfl
      · right
        have hc : ∀ i, i < m → ∀ k, k < z → W.cell? ((a.add (i * z)).add k) = (cells (F i))[k]? := fun i hi k hk => (World.cells?_some (hF i hi).1).2.2 k hk
        have h00 := hc 0 (by omega) 0 hz0
        rw [List.getElem?_eq_getElem (by rw [hcl]; exact hz0)] at h00
        obtain ⟨b, off, spot⟩ := a
        have hspot : spot = none := by simpa [Addr.add] using World.cell?_spot h00
        subst hspot
        have hadd : ∀ i k : Nat, ((⟨b, off, none⟩ : Addr).add i).add k = ⟨b, off + i + k, none⟩ := fun i k => by rw [Go.WideShapes.add_plain, Go.WideShapes.add_plain]
        rw [hadd] at h00
        refine ⟨b, off, rfl, World.block_lt_of_cell? W _ h00, fun j y hj i u hu => ?_⟩
        rw [List.getElem?_map] at hj
        obtain ⟨j', hj', rfl⟩ := Option.map_eq_some_iff.1 hj
        have hjl : j < len := by
          have := (List.getElem?_eq_some_iff.1 hj').1
          simpa using this
        rw [List.getElem?_range hjl] at hj'
        obtain rfl := Option.some.inj hj'
        have hi : i < z := by
          have := (List.getElem?_eq_some_iff.1 hu).1
          rw [hcl] at this
          exact this
        have := hc j (by omega) i hi
        rw [hadd] at this
        rw [this]
        exact hu
    · rw [List.getElem?_map] at hj
      obtain ⟨j', hj', rfl⟩ := Option.map_eq_some_iff.1 hj
      have hjl : j < len := by
        have := (List.getElem?_eq_some_iff.1 hj').1
        simpa using this
      rw [List.getElem?_range hjl] at hj'
      obtain rfl := Option.some.inj hj'
      exact ⟨D j, by rw [List.getElem?_map, List.getElem?_range hjl]; rfl, (hF j (by omega)).2⟩
end
end Go.Proofs.YtocmbifljkcmeaaDoor

set_option linter.unusedVariables false
set_option maxRecDepth 100000
namespace Go.Proofs.YtocmbifljkcmeaaDoor
open Go Go.Proofs Go.ChangeShapes Go.WideShapes Go.ChangeAt Go.RowKit Go.Lib Go.Deep

theorem cs3 : Tryd.prog.cellsOf 3 = 1 := by kernel_rfl
theorem cs4 : Tryd.prog.cellsOf 4 = 1 := by kernel_rfl
theorem cs9 : Tryd.prog.cellsOf 9 = 1 := by kernel_rfl
theorem csFields : Tryd.prog.cellsOf 39 = 1 := by kernel_rfl
theorem csField : Tryd.prog.cellsOf 81 = 3 := by kernel_rfl
theorem csRec : Tryd.prog.cellsOf 41 = 2 := by kernel_rfl
instance : Inhabited Room5 := ⟨⟨none, 0, none, 0⟩⟩
section
variable {H : Type} {enc : TypeId × Value → H} {W : World}
theorem tk1 {cs : List Value} {k : Nat} {v : Value} (h : (cs.drop k).take 1 = [v]) : cs[k]? = some v := by
  have := congrArg (·[0]?) h
  simpa [List.getElem?_take, List.getElem?_drop] using this
theorem tk1' {cs : List Value} {k : Nat} (h : k < cs.length) : ∃ v, (cs.drop k).take 1 = [v] := by
  refine ⟨cs[k], ?_⟩
  rw [List.drop_eq_getElem_cons h]
  rfl
theorem three3 {cs : List Value} {a b c : Value} (hl : cs.length = 3) (h0 : cs[0]? = some a) (h1 : cs[1]? = some b) (h2 : cs[2]? = some c) : cs = [a, b, c] := by
  match cs, hl with
  | [c0, c1, c2], _ => simp at h0 h1 h2; simp [h0, h1, h2]
theorem two2 {cs : List Value} {a b : Value} (hl : cs.length = 2) (h0 : cs[0]? = some a) (h1 : cs[1]? = some b) : cs = [a, b] := by
  match cs, hl with
  | [c0, c1], _ => simp at h0 h1; simp [h0, h1]
/-- A slice of fields, and what their texts weigh. -/
theorem open_fields7 {fuel : Nat} {v : Value} {x : DataW H × List MemPlace} (hf : DataW.trod enc Tryd.prog W 0 (fun _ => true) true fuel 39 [v] = some x) :
    ∃ (A : Option Addr) (l : List FieldD) (c : Nat), v = .slice A l.length c ∧ l.length ≤ c ∧ c ≤ maxLen ∧ FieldsIn W (fun b => b < W.heap.size) A l ∧
      ∃ ds rest : List (DataW H), (x.1 = .slice ds rest ∨ (x.1 = .nil ∧ ds = [])) ∧ ds.length = l.length ∧ ∀ (j : Nat) (f : FieldD), l[j]? = some f → ∃ d, ds[j]? = some d ∧ ∃ d1 d2, d = .agg [.lit (.string f.1), d1, d2] := by
  obtain ⟨A, l, c, hv, h1, h2, hc, hd⟩ := open_list (T := 39) (e := 81) Tryd.underlying39 csField (by omega) fieldVs (fun (f : FieldD) (d : DataW H) => ∃ d1 d2, d = .agg [.lit (.string f.1), d1, d2]) (fun _ => rfl) (fun n cs x h => by
    obtain ⟨y0, y1, y2, n, rfl, hl, h0, h1, h2⟩ := trod_struct3 Tryd.underlying81 h
    rw [csField] at hl
    dsimp only at h0 h1 h2
    rw [cs9] at h0
    rw [cs3] at h1
    rw [cs4] at h2
    obtain ⟨s, hc0, rfl, _⟩ := DataW.trod_string Tryd.underlying9 h0
    obtain ⟨z1, hc1, _, _⟩ := DataW.trod_int Tryd.underlying3 h1
    obtain ⟨b2, hc2, _⟩ := DataW.trod_bool Tryd.underlying4 h2
    exact ⟨(s.data.toList, z1, b2), three3 hl (tk1 hc0) (tk1 hc1) (tk1 hc2), _, _, rfl⟩) hf
  exact ⟨A, l, c, hv, h1, h2, hc, hd⟩
theorem bulk_all : ∀ (ds : List (DataW H)) (j : Nat) (d : DataW H), ds[j]? = some d → Rows.uptoBulk d ≤ Rows.uptoBulkAll ds
  | [], j, d, h => by simp at h
  | a :: r, 0, d, h => by
    simp at h
    subst h
    simp only [Rows.uptoBulkAll]
    omega
  | a :: r, j + 1, d, h => by
    have := bulk_all r j d (by simpa using h)
    simp only [Rows.uptoBulkAll]
    omega
theorem bulk_pos (d : DataW H) : 1 ≤ Rows.uptoBulk d := by
  cases d with
  | lit l => cases l <;> simp [Rows.uptoBulk]
  | _ => simp [Rows.uptoBulk]
theorem bulk_len : ∀ ds : List (DataW H), ds.length ≤ Rows.uptoBulkAll ds
  | [] => by simp
  | d :: r => by
    have := bulk_len r
    have := bulk_pos d
    simp only [Rows.uptoBulkAll, List.length_cons]
    omega
/-- A slice of records; their texts, and how many they are, against the bulk. -/
theorem open_recs7 {base : Nat} {v : Value} {d : DataW H} {p : List MemPlace} (hv : Value.okWide Tryd.prog W .any base 38 v) (h : DataW.Trod enc Tryd.prog W 0 (fun _ => true) true 38 v d p) :
    ∃ (A : Option Addr) (l : List RecD) (c : Nat), v = .slice A l.length c ∧ l.length ≤ c ∧ c ≤ maxLen ∧ RecsIn W (fun b => b < W.heap.size) A l ∧ l.length ≤ Rows.uptoBulk d ∧ ∀ r ∈ l, ∀ f ∈ r.2, f.1.length ≤ Rows.uptoBulk d := by
  obtain ⟨a0, len, cap, rfl⟩ := okWide_slice Tryd.underlying38 hv
  obtain ⟨fuel, hf⟩ := h
  obtain ⟨A, l, c, hv, h1, h2, hc, ds, rest, hds, hdl, hd⟩ := open_list (T := 38) (e := 41) Tryd.underlying38 csRec (by omega) (fun r : RecD × (Option Addr × Nat) => [Value.int .i64 r.1.1, Value.slice r.2.1 r.1.2.length r.2.2])
    (fun r (d : DataW H) => (FieldsIn W (fun b => b < W.heap.size) r.2.1 r.1.2 ∧ r.1.2.length ≤ r.2.2 ∧ r.2.2 ≤ 9223372036854775807) ∧ ∀ f ∈ r.1.2, f.1.length ≤ Rows.uptoBulk d) (fun _ => rfl) (fun n cs x h => by
    obtain ⟨y0, y1, n, rfl, hl, h0, h1⟩ := trod_struct2 Tryd.underlying41 h
    rw [csRec] at hl
    dsimp only at h0 h1
    rw [cs3] at h0
    rw [csFields] at h1
    obtain ⟨z0, hc0, _, _⟩ := DataW.trod_int Tryd.underlying3 h0
    obtain ⟨v1, hc1⟩ := tk1' (cs := cs) (k := 1) (by omega)
    rw [hc1] at h1
    obtain ⟨A1, l1, c1, rfl, q1, q2, q3, ds, rest, hds, hdl, hd⟩ := open_fields7 h1
    refine ⟨((z0, l1), (A1, c1)), two2 hl (tk1 hc0) (tk1 hc1), ⟨q3, q1, ?_⟩, fun f hf => ?_⟩
    · unfold maxLen at q2; show c1 ≤ _; omega
    · obtain ⟨j, hj, rfl⟩ := List.mem_iff_getElem.1 hf
      obtain ⟨d, hj', d1, d2, rfl⟩ := hd j _ (List.getElem?_eq_getElem hj)
      have h3 := bulk_all _ j _ hj'
      rcases hds with e | ⟨_, rfl⟩
      · rw [e]
        simp only [Rows.uptoBulk, Rows.uptoBulkAll] at h3 ⊢
        omega
      · simp at hj') (v := .slice a0 len cap) (x := (d, p)) hf
  refine ⟨A, l.map (·.1), c, by rw [List.length_map]; exact hv, by rw [List.length_map]; exact h1, h2, ?_, ?_, ?_⟩
  · rcases hc with h | ⟨b, off, hA, hb, hc⟩
    · exact .inl (by rw [h]; rfl)
    · refine .inr ⟨b, off, hA, hb, fun j r hj => ?_⟩
      rw [List.getElem?_map] at hj
      obtain ⟨y, hy, rfl⟩ := Option.map_eq_some_iff.1 hj
      obtain ⟨d', _, ⟨g1, g2, g3⟩, _⟩ := hd j y hy
      exact ⟨y.2.1, y.2.2, g1, g2, g3, hc j y hy 0 _ rfl, hc j y hy 1 _ rfl⟩
  · rw [List.length_map, ← hdl]
    have := bulk_len ds
    rcases hds with e | ⟨_, rfl⟩
    · dsimp only at e
      rw [e]
      simp only [Rows.uptoBulk]
      omega
    · simp
  · intro r hr f hf
    obtain ⟨y, hy, rfl⟩ := List.mem_map.1 hr
    obtain ⟨j, hj, rfl⟩ := List.mem_iff_getElem.1 hy
    obtain ⟨d', hj', _, hb⟩ := hd j _ (List.getElem?_eq_getElem hj)
    have h3 := bulk_all _ j _ hj'
    have h4 := hb f hf
    rcases hds with e | ⟨_, rfl⟩
    · dsimp only at e
      rw [e]
      simp only [Rows.uptoBulk]
      omega
    · simp at hj'
end
end Go.Proofs.YtocmbifljkcmeaaDoor

