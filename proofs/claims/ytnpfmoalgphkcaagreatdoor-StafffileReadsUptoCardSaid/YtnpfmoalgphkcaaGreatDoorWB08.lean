/-
  A lecturer out of a record by the specification. Conditions: the variables hold what their text lays; the record and the lecturers lie in memory; the text of the times has at most 2097152 bytes.
-/
import Derived.Test.YtnpfmoalgphkcaaGreatDoorVA01
import Derived.Test.YtnpfmoalgphkcaaGreatDoorVA02
import Derived.Test.YtnpfmoalgphkcaaGreatDoorVA03
import Derived.Test.YtnpfmoalgphkcaaGreatDoorVA04
import Derived.Test.YtnpfmoalgphkcaaGreatDoorVA05
import Derived.Test.YtnpfmoalgphkcaaGreatDoorVA06
import Derived.Test.YtnpfmoalgphkcaaGreatDoorVA07
import Derived.Test.YtnpfmoalgphkcaaGreatDoorVA08
import Derived.Test.YtnpfmoalgphkcaaGreatDoorVA09
import Derived.Test.YtnpfmoalgphkcaaGreatDoorVA10
import Derived.Test.YtnpfmoalgphkcaaGreatDoorVA11
import Derived.Test.YtnpfmoalgphkcaaGreatDoorVA12
import Derived.Test.YtnpfmoalgphkcaaGreatDoorVA13
import Derived.Test.YtnpfmoalgphkcaaGreatDoorVA14
import Derived.Test.YtnpfmoalgphkcaaGreatDoorVA15
import Derived.Test.YtnpfmoalgphkcaaGreatDoorVA16
import Derived.Test.YtnpfmoalgphkcaaGreatDoorVA17
import Derived.Test.YtnpfmoalgphkcaaGreatDoorVA18
import Derived.Test.YtnpfmoalgphkcaaGreatDoorVA19
import Derived.Test.YtnpfmoalgphkcaaGreatDoorVA20
import Derived.Test.YtnpfmoalgphkcaaGreatDoorVA21
import Derived.Test.YtnpfmoalgphkcaaGreatDoorVA22
import Derived.Test.YtnpfmoalgphkcaaGreatDoorVA23
import Derived.Test.YtnpfmoalgphkcaaGreatDoorVA24
import Derived.Test.YtnpfmoalgphkcaaGreatDoorVA25
import Derived.Test.YtnpfmoalgphkcaaGreatDoorVA26
import Derived.Test.YtnpfmoalgphkcaaGreatDoorVA27
import Derived.Test.YtnpfmoalgphkcaaGreatDoorVA28
import Derived.Test.YtnpfmoalgphkcaaGreatDoorVA29
import Derived.Test.YtnpfmoalgphkcaaGreatDoorVA30
import Derived.Test.YtnpfmoalgphkcaaGreatDoorVA31
import Derived.Test.YtnpfmoalgphkcaaGreatDoorWA01
import Derived.Test.YtnpfmoalgphkcaaGreatDoorWA02
import Derived.Test.YtnpfmoalgphkcaaGreatDoorWA03
import Derived.Test.YtnpfmoalgphkcaaGreatDoorWB01
import Derived.Test.YtnpfmoalgphkcaaGreatDoorWB02
import Derived.Test.YtnpfmoalgphkcaaGreatDoorWB03
import Derived.Test.YtnpfmoalgphkcaaGreatDoorWB04
import Derived.Test.YtnpfmoalgphkcaaGreatDoorWB05
import Derived.Test.YtnpfmoalgphkcaaGreatDoorWB06
import Derived.Test.YtnpfmoalgphkcaaGreatDoorWB07
import Derived.Test.YtnpfmoalgphkcaaGreatDoorProg
import Derived.WalkKit
import Derived.WalkSpells
import Derived.WalkLawsBesides
import Derived.Lib.Hide
import Derived.Deep.QuietTactic
import Derived.BigQuiet
import Derived.Laws.Rows
import Derived.OwnWalk
import Derived.Lib.BufferWrite
import Derived.Lib.UnsafeStr
import Derived.Laws.IdiomStrings
import Derived.Laws.BytesArg
import Derived.Laws.BytesString
import Derived.Laws.OwnMore
import Derived.Lib.IndexLaws
import Derived.Lib.ItoaNum
import Derived.Lib.Atoi
import Derived.Laws.BitsAllLaws
import Derived.Laws.BitsLemmas
import Derived.Deep.MidRow
import Derived.Shelf.Strings.Builder1
import Derived.Shelf.Strings.Builder2
import Derived.Shelf.Strings.OnBuilder
import Derived.Shelf.Strings.BuilderF
import Derived.Shelf.Strings.BuilderK
import Derived.Shelf.Strings.Builder2Cap
import Derived.Shelf.Strconv.Atoi
import Derived.Shelf.Strconv.Itoa0
import Derived.Shelf.Strconv.Itoa1
import Derived.Shelf.LaysM
import Derived.Shelf.Strconv.Itoa2
import Derived.Shelf.Strconv.Itoa3
import Derived.Shelf.Strconv.AtoiErrFast
import Derived.Shelf.Strconv.ParseIntEmpty
import Derived.Shelf.Strconv.AtoiFail
import Derived.Shelf.Strconv.Clone
import Derived.Shelf.Strconv.SyntaxError
import Derived.Shelf.LaysC
import Derived.Shelf.Strconv.ToError
import Derived.Shelf.Strconv.AtoiErr
import Derived.Shelf.Strings.Search1
import Derived.Shelf.Strings.Search2
import Derived.Shelf.Strings.Search3
import Derived.Shelf.Strings.Cut
import Derived.Shelf.Strings.Shaped
import Derived.Shelf.Strings.Prefix
import Derived.Shelf.Unicode.DecodeSlow
import Derived.Shelf.Strings.BuilderCap
import Derived.Lib.AtoiErrMem
import Derived.Handy
import Derived.RangeFuncNested
import Derived.RangeFuncBound
import Derived.RangeFuncCalls
import Derived.RangeFuncLeaves
import Derived.Shelf.Abstract
import Derived.Shelf.RegionOpen
import Derived.OwnWalkIn
import Derived.Lib.Bytealg
import Derived.Lib.SlTrimSet
import Derived.Shelf.Strings.SlTrimAscii
import Derived.Laws.ResultCell
import Derived.RegionTactic
import Derived.Lib.Repeat
import Derived.Deep.RegionHeld3
import Derived.Lib.SlicesS
import Derived.TacticsInMore
import Derived.LoopNIn
import Derived.LoopIn
import Derived.Deep.DeepCutAuto
import Derived.Lib.Join
import Derived.Laws.Concat
import Derived.Maps.OwnSet
import Derived.Maps.Range
import Derived.Sort.EncStr
import Derived.Deep.RegionLaw
import Derived.Sort.Walk0
import Derived.StillTailTactics
import Derived.Deep.RegionLawGrows
import Derived.Deep.AppendLies
import Derived.Deep.CutBlock
import Derived.Maps.AppendAt
import Derived.IntWalk
import Derived.Shelf.SlGeneric
import Derived.Shelf.SlicesQ.IndexFunc
set_option linter.unusedVariables false
namespace Go.Proofs.YtnpfmoalgphkcaaGreatDoor.S9
open Go Go.Proofs Go.RowKit Go.Lib Go.Proofs.YtnpfmoalgphkcaaGreatDoor

theorem entry2 (d s b m n : Int) (f0 f1 : FieldD) :
    (S3.validC f0.1 = false → (entryM d s b m n [f0, f1]).2 = (f0.2.1, 10)) ∧
    (S3.validC f0.1 = true → (timesM d s b m n f1.1).2 ≠ 0 → (entryM d s b m n [f0, f1]).2 = (f1.2.1, (timesM d s b m n f1.1).2)) ∧
    (S3.validC f0.1 = true → (timesM d s b m n f1.1).2 = 0 → entryM d s b m n [f0, f1] = ((f0.1, (timesM d s b m n f1.1).1), 0, 0)) := by
  refine ⟨?_, ?_, ?_⟩
  all_goals
    intros
    simp_all [entryM, efold, setF, zeroR]
theorem recM_err {d s b m n : Int} {st : List LectD × List ProbD} {line col e : Int} {fs : List FieldD} (h : (entryM d s b m n fs).2 = (col, e)) (he : e ≠ 0) : recM d s b m n st (line, fs) = (st.1, st.2 ++ [(line, col, e)]) := by
  unfold recM
  dsimp only
  rw [h, if_pos he]
theorem recM_add {d s b m n : Int} {st : List LectD × List ProbD} {line : Int} {fs : List FieldD} {r : LectD} (h : entryM d s b m n fs = (r, 0, 0)) : recM d s b m n st (line, fs) = if addC st.1 r.1 ≠ 0 then (st.1, st.2 ++ [(line, 0, addC st.1 r.1)]) else (st.1 ++ [r], st.2) := by
  unfold recM
  dsimp only
  rw [h]
  simp
/-- What reading a lecturer leaves behind. -/
def LectOut (d s b m n : Int) (l : List LectD) (line : Int) (fs : List FieldD) (w : World) (e : Ending) (w' : World) : Prop :=
  (∃ (r : LectD) (q : LectA) (k e0 : Int), e = .returned (.tuple #[lectV r q, .int .i64 k, .int .i64 e0]) ∧
    ((e0 ≠ 0 ∧ k = -1 ∧ ∀ ps, recM d s b m n (l, ps) (line, fs) = (l, ps ++ [(line, 0, e0)])) ∨
     (e0 ≠ 0 ∧ (∃ (j : Nat) (hj : j < fs.length), j < 5 ∧ k = (j : Int) ∧ ∀ ps, recM d s b m n (l, ps) (line, fs) = (l, ps ++ [(line, fs[j].2.1, e0)]))) ∨
     (e0 = 0 ∧ (∀ ps, recM d s b m n (l, ps) (line, fs) = (l ++ [r], ps)) ∧ LectIn w' (fun i => w.heap.size ≤ i ∧ i < w'.heap.size) r q))) ∧ Below w.heap.size w w'
theorem one_end {w W : World} {a : Act} {P : Ending → World → Prop} {k e0 : Int} {v0 v1 : Value} (hp : a.tmps.getD 8 undef = .pointer (some ⟨w.heap.size + 1 + 1, 0, none⟩)) (hk : a.tmps.getD 9 undef = .int .i64 k) (he : a.tmps.getD 10 undef = .int .i64 e0) (hd : a.defers = [])
    (hz : Box2 W (w.heap.size + 1 + 1) v0 v1) (hP : P (.returned (.tuple #[.agg #[v0, v1], .int .i64 k, .int .i64 e0])) W) : bodyPost Tryz.prog Tryz.f50 P Exit.ret a W :=
  bodyPost_ret (v := .tuple #[.agg #[v0, v1], .int .i64 k, .int .i64 e0]) (results_ctt rfl _ _ _ ⟨w.heap.size + 1 + 1, 0, none⟩ _ _ _ hp hk he (load2 hz.cells)) hd hP
/-- The boxes of the record, the grid, the result, the lecturer that is being read. -/
structure OK (w0 : World) (v : Value) (d s b m : Int) (v0 v1 : Value) (W : World) : Prop where
  x : W.cell? ⟨w0.heap.size, 1, none⟩ = some v
  g : Box4 W (w0.heap.size + 1) d s b m
  z : Box2 W (w0.heap.size + 1 + 1) (.string ⟨#[]⟩) (.slice none 0 0)
  r : Box2 W (w0.heap.size + 1 + 1 + 1) v0 v1
  bw : Below w0.heap.size w0 W
section
variable {w0 W W' : World} {v : Value} {d s b m : Int} {v0 v1 : Value}
theorem OK.next (h : OK w0 v d s b m v0 v1 W) (k : Below W.heap.size W W') : OK w0 v d s b m v0 v1 W' :=
  ⟨(k.cell (p := ⟨w0.heap.size, 1, none⟩) (by have := h.r.lt; show w0.heap.size < _; omega)).trans h.x, h.g.next k h.g.lt, h.z.next k, h.r.next k, h.bw.trans (k.mono h.bw.size)⟩
theorem OK.put1 (h : OK w0 v d s b m v0 v1 W) (u : Value) : OK w0 v d s b m v0 u (W.setCell ⟨w0.heap.size + 1 + 1 + 1, 1, none⟩ u) := by
  have k : Below (w0.heap.size + 1 + 1 + 1) W (W.setCell ⟨w0.heap.size + 1 + 1 + 1, 1, none⟩ u) := (Below.refl _ W).setCell (p := ⟨w0.heap.size + 1 + 1 + 1, 1, none⟩) (Nat.le_refl _) u
  exact ⟨(k.cell (p := ⟨w0.heap.size, 1, none⟩) (by show w0.heap.size < _; omega)).trans h.x, h.g.next k (by omega), h.z.below k (by omega), Box2.put1 h.r u, h.bw.trans (k.mono (by omega))⟩
theorem OK.fin (h : OK w0 v d s b m v0 v1 W) (u0 u1 : Value) : Below w0.heap.size w0 ((W.setCell ⟨w0.heap.size + 1 + 1, 0, none⟩ u0).setCell ⟨w0.heap.size + 1 + 1, 1, none⟩ u1) :=
  (h.bw.setCell (p := ⟨w0.heap.size + 1 + 1, 0, none⟩) (by show w0.heap.size ≤ w0.heap.size + 1 + 1; omega) u0).setCell (p := ⟨w0.heap.size + 1 + 1, 1, none⟩) (by show w0.heap.size ≤ w0.heap.size + 1 + 1; omega) u1
end
theorem two_else (W : World) (R k : Nat) (hk : k ≠ R) (u0 u1 : Value) : ((W.setCell ⟨R, 0, none⟩ u0).setCell ⟨R, 1, none⟩ u1).heap[k]? = W.heap[k]? := by
  rw [Below.heap_setCell _ ⟨R, 1, none⟩ _ k hk, Below.heap_setCell _ ⟨R, 0, none⟩ _ k hk]
theorem two_size (W : World) (R : Nat) (u0 u1 : Value) : ((W.setCell ⟨R, 0, none⟩ u0).setCell ⟨R, 1, none⟩ u1).heap.size = W.heap.size := by simp [World.setCell]

set_option maxHeartbeats 16000000 in
set_option maxRecDepth 100000 in
/-- A record with another number of fields. -/
theorem oneW_any (d s b m n line : Int) (A' : Option Addr) (fs : List FieldD) (c' : Nat) (Ar : Option Addr) (l : List LectD) (cr : Nat) (w : World) (h5 : fs.length ≠ 2) :
    Calls Tryz.prog 50 #[.agg #[.int .i64 line, .slice A' fs.length c'], .agg #[.int .i64 d, .int .i64 s, .int .i64 b, .int .i64 m], .int .i64 n, .slice Ar l.length cr] w (LectOut d s b m n l line fs w) := by
  have hrec : Hid (∀ ps, recM d s b m n (l, ps) (line, fs) = (l, ps ++ [(line, 0, 9)])) := hid (fun ps => recM_err (by unfold entryM; rw [if_pos h5]) (by decide))
  obtain ⟨F, hF⟩ : ∃ F, fs.length = F := ⟨_, rfl⟩
  rw [hF] at h5 ⊢
  have hn5 : ((F : Int) != 2) = true := by simp; omega
  obtain ⟨L, hL⟩ : ∃ L, l.length = L := ⟨_, rfl⟩
  rw [hL]
  clear hF hL h5
  go_enter Tryz.func50, Tryz.ntmps50
  go_wp2
  have hz : Box2 (((w.alloc (.cells #[.int .i64 line, .slice A' F c'] 42)).alloc (.cells #[.int .i64 d, .int .i64 s, .int .i64 b, .int .i64 m] 24)).alloc (.cells #[.string ⟨#[]⟩, .slice none 0 0] 34)) (w.heap.size + 1 + 1) (.string ⟨#[]⟩) (.slice none 0 0) := by
    simpa using Box2.new ((w.alloc (.cells #[.int .i64 line, .slice A' F c'] 42)).alloc (.cells #[.int .i64 d, .int .i64 s, .int .i64 b, .int .i64 m] 24)) (.string ⟨#[]⟩) (.slice none 0 0)
  exact one_end (w := w) rfl rfl rfl rfl hz ⟨⟨zeroR, (none, 0), -1, 9, rfl, .inl ⟨by decide, rfl, hrec.out⟩⟩, (((Below.refl _ w).alloc (Nat.le_refl _) _).alloc (by simp) _).alloc (by simp; omega) _⟩

set_option maxHeartbeats 16000000 in
set_option maxRecDepth 100000 in
theorem one2_any (d s b m n line : Int) (A' : Option Addr) (x0 x1 : FieldD) (c' : Nat) (Ar : Option Addr) (l : List LectD) (cr : Nat) (w : World)
    (hf : FieldsIn w (fun k => k < w.heap.size) A' [x0, x1]) (hr : LectsIn w (fun k => k < w.heap.size) Ar l) (hl : l.length ≤ 32) (hsz : ∀ f ∈ [x0, x1], f.1.length ≤ 2097152) (hE : REnv7 w) :
    Calls Tryz.prog 50 #[.agg #[.int .i64 line, .slice A' 2 c'], .agg #[.int .i64 d, .int .i64 s, .int .i64 b, .int .i64 m], .int .i64 n, .slice Ar l.length cr] w (LectOut d s b m n l line [x0, x1] w) := by
  obtain ⟨q1, q2, q3⟩ := entry2 d s b m n x0 x1
  have Q1 := hid q1
  have Q2 := hid q2
  have Q3 := hid q3
  obtain ⟨fb, fo, rfl, hfb, hcells⟩ : ∃ fb fo, A' = some ⟨fb, fo, none⟩ ∧ fb < w.heap.size ∧ ∀ (j : Nat) (t : FieldD), [x0, x1][j]? = some t → ∀ (i : Nat) (v : Value), (fieldVs t)[i]? = some v → w.cell? ⟨fb, fo + j * 3 + i, none⟩ = some v := by
    rcases hf with h | ⟨b, off, hA, hP, hc⟩
    · cases h
    · exact ⟨b, off, hA, hP, hc⟩
  obtain ⟨X0, hX0⟩ : ∃ X, ba x0.1 = X := ⟨_, rfl⟩
  obtain ⟨X1, hX1⟩ : ∃ X, ba x1.1 = X := ⟨_, rfl⟩
  have LX0 : Hid (lst X0 = x0.1) := hid (by rw [← hX0]; rfl)
  have LX1 : Hid (lst X1 = x1.1) := hid (by rw [← hX1]; rfl)
  have BX0 : Hid (ba x0.1 = X0) := hid hX0
  have hz1 : X1.size ≤ 2097152 := by rw [← hX1]; exact hsz x1 (by simp)
  have HF : Hid (∀ W, Below w.heap.size w W → W.cell? ⟨fb, fo, none⟩ = some (.string X0) ∧ W.cell? ⟨fb, fo + 3, none⟩ = some (.string X1)) := hid (fun W hb => by
    have k : ∀ o, W.cell? ⟨fb, o, none⟩ = w.cell? ⟨fb, o, none⟩ := fun o => hb.cell (p := ⟨fb, o, none⟩) hfb
    rw [k, k, ← hX0, ← hX1]
    exact ⟨hcells 0 x0 rfl 0 _ rfl, hcells 1 x1 rfl 0 _ rfl⟩)
  have HRI := hid hr
  have HE := hid hE
  obtain ⟨LN, hLN⟩ : ∃ L, l.length = L := ⟨_, rfl⟩
  have HLN := hid hLN
  rw [hLN] at hl ⊢
  obtain ⟨w3, hw3⟩ : ∃ w3, ((w.alloc (.cells #[.int .i64 line, .slice (some ⟨fb, fo, none⟩) 2 c'] 42)).alloc (.cells #[.int .i64 d, .int .i64 s, .int .i64 b, .int .i64 m] 24)).alloc (.cells #[.string ⟨#[]⟩, .slice none 0 0] 34) = w3 := ⟨_, rfl⟩
  obtain ⟨hx3, hg3, hzz3, hb3, hs3⟩ : w3.heap[w.heap.size]? = some (.cells #[.int .i64 line, .slice (some ⟨fb, fo, none⟩) 2 c'] 42 (0, 0)) ∧ Box4 w3 (w.heap.size + 1) d s b m ∧ Box2 w3 (w.heap.size + 1 + 1) (.string ⟨#[]⟩) (.slice none 0 0) ∧ Below w.heap.size w w3 ∧ w3.heap.size = w.heap.size + 1 + 1 + 1 := by
    rw [← hw3]
    have hb1 := (Below.refl w.heap.size w).alloc (Nat.le_refl _) (.cells #[.int .i64 line, .slice (some ⟨fb, fo, none⟩) 2 c'] 42)
    have e1 := heap_alloc_new w (.cells #[.int .i64 line, .slice (some ⟨fb, fo, none⟩) 2 c'] 42)
    have hs1 : (w.alloc (.cells #[.int .i64 line, .slice (some ⟨fb, fo, none⟩) 2 c'] 42)).heap.size = w.heap.size + 1 := by simp
    generalize w.alloc (.cells #[.int .i64 line, .slice (some ⟨fb, fo, none⟩) 2 c'] 42) = u1 at hb1 e1 hs1 ⊢
    have g2 := Box4.new u1 d s b m 24
    have hb2 := (Below.refl u1.heap.size u1).alloc (Nat.le_refl _) (.cells #[.int .i64 d, .int .i64 s, .int .i64 b, .int .i64 m] 24)
    have hs2 : (u1.alloc (.cells #[.int .i64 d, .int .i64 s, .int .i64 b, .int .i64 m] 24)).heap.size = u1.heap.size + 1 := by simp
    generalize u1.alloc (.cells #[.int .i64 d, .int .i64 s, .int .i64 b, .int .i64 m] 24) = u2 at hb2 g2 hs2 ⊢
    have g3 := Box2.new u2 (.string ⟨#[]⟩) (.slice none 0 0)
    have hbx := (Below.refl u2.heap.size u2).alloc (Nat.le_refl _) (.cells #[.string ⟨#[]⟩, .slice none 0 0] 34)
    refine ⟨(hbx.block _ (by omega)).trans ((hb2.block _ (by omega)).trans e1), ?_, ?_, hb1.trans ((hb2.trans (hbx.mono (by omega))).mono (by omega)), by simp [hs1, hs2]⟩
    · rw [← hs1]; exact g2.next hbx (by omega)
    · rw [← hs1, ← hs2]; exact g3
  have hw1 : w3.cell? ⟨w.heap.size, 1, none⟩ = some (.slice (some ⟨fb, fo, none⟩) 2 c') := by rw [Lib.cell_of_heap hx3]; rfl
  obtain ⟨y0, -⟩ := HF.out w3 hb3
  have hbb := (Below.refl w3.heap.size w3).alloc (Nat.le_refl _) (.cells #[.string X0, .slice none 0 0] 34)
  have hrr := Box2.new w3 (.string X0) (.slice none 0 0)
  rw [hs3] at hrr
  have hk4 : OK w (.slice (some ⟨fb, fo, none⟩) 2 c') d s b m (.string X0) (.slice none 0 0) (w3.alloc (.cells #[.string X0, .slice none 0 0] 34)) :=
    ⟨(hbb.cell (p := ⟨w.heap.size, 1, none⟩) (by show w.heap.size < _; omega)).trans hw1, hg3.next hbb hg3.lt, hzz3.next hbb, hrr, hb3.trans (hbb.mono hb3.size)⟩
  have HK4 := hid hk4
  have HS3 := hid hs3
  have HW3 := hid hw3
  have cV0 := fun w => S3.refValid_any X0 w
  rw [show X0.data.toList = x0.1 from LX0.out] at cV0
  obtain ⟨V0, hV0⟩ : ∃ V, S3.validC x0.1 = V := ⟨_, rfl⟩
  rw [hV0] at cV0
  have HV0 := hid hV0
  have CV := hid cV0
  clear q1 q2 q3 hf hcells hX0 hX1 hr hE hLN hx3 hg3 hzz3 hb3 hsz hbb hrr hk4 cV0 hV0
  go_enter Tryz.func50, Tryz.ntmps50
  go_upto_region 3 with fail
  (try rw [hw3])
  have hfb3 : fb < w3.heap.size := by omega
  clear hw3 hs3
  go_wp2_with fail
  (try rw [HS3.out])
  clear hw1 y0
  generalize w3.alloc (.cells #[.string X0, .slice none 0 0] 34) = w4 at HK4 ⊢
  refine (CV.out w4).mono ?_
  rintro e w' ⟨rfl, rfl⟩
  cases V0 with
  | false =>
    have HEQ : Hid ((entryM d s b m n [x0, x1]).2 = (x0.2.1, 10)) := hid (Q1.out HV0.out)
    obtain ⟨y0, y1⟩ := HK4.out.r.cells
    obtain ⟨z0, z1⟩ := HK4.out.z.cells
    have f0 := HK4.out.z.free 0
    have f1 := HK4.out.z.free 1
    go_wp2
    refine one_end (w := w) rfl rfl rfl rfl (Box2.set HK4.out.z _ _) ⟨⟨(x0.1, []), (none, 0), (0 : Nat), 10, by rw [← BX0.out]; rfl, .inr (.inl ⟨by decide, ⟨0, by simp, by omega, rfl, fun ps => recM_err HEQ.out (by decide)⟩⟩)⟩, HK4.out.fin _ _⟩
  | true =>
  have hst4 := timesM_start d s b m n x1.1
  obtain ⟨⟨TL, e4⟩, hT⟩ : ∃ T, timesM d s b m n x1.1 = T := ⟨_, rfl⟩
  rw [hT] at hst4
  have cT : Hid (∀ wx, Below w.heap.size w wx → Calls Tryz.prog 74 #[.string X1, .agg #[.int .i64 d, .int .i64 s, .int .i64 b, .int .i64 m], .int .i64 n] wx fun e w' => (∃ v, e = .returned (.tuple #[v, .int .i64 e4]) ∧ TimeRow w' wx.heap.size v TL) ∧ Below wx.heap.size wx w') := hid (fun wx hx => by
    have h := rtimes_any d s b m n X1 hz1 wx (HE.out.below hx (Nat.le_refl _))
    rw [show lst X1 = x1.1 from LX1.out, hT] at h
    exact h)
  have HST := hid hst4
  have HT := hid hT
  obtain ⟨TN, hTN⟩ : ∃ TN, TL.length = TN := ⟨_, rfl⟩
  have HTN := hid hTN
  clear hst4 hT hTN
  have hk' := HK4.out.next (Below.refl _ w4).drew
  have hrl4 := HK4.out.r.lt
  obtain ⟨q0, q1⟩ := HF.out _ HK4.out.bw
  have qx := HK4.out.x
  obtain ⟨g0, g1, g2, g3, _⟩ := HK4.out.g
  go_upto_region 6 with fail
  go_region_held3 (fun w' => w'.cell? ⟨w.heap.size, 1, none⟩ = some (.slice (some ⟨fb, fo, none⟩) 2 c') ∧ w'.cell? ⟨w.heap.size + 1, 0, none⟩ = some (.int .i64 d) ∧ w'.cell? ⟨w.heap.size + 1, 1, none⟩ = some (.int .i64 s) ∧ w'.cell? ⟨w.heap.size + 1, 2, none⟩ = some (.int .i64 b) ∧ w'.cell? ⟨w.heap.size + 1, 3, none⟩ = some (.int .i64 m) ∧ w'.cell? ⟨fb, fo + 3, none⟩ = some (.string X1))
    (first | with_reducible exact ⟨hk'.x, hk'.g.c0, hk'.g.c1, hk'.g.c2, hk'.g.c3, (HF.out _ hk'.bw).2⟩)
    (first
      | (go_at_call 74; refine (cT.out _ hk'.bw).mono ?_; rintro e w' ⟨⟨v, rfl, hrow⟩, hb'⟩; have hk' := hk'.next hb'
         obtain ⟨A5, c5, rfl, h51, h52, h53⟩ := TimeRow.timesIn hrow HST.out
         have H53 := hid (h53.mono (P' := fun k => w.heap.size + 1 + 1 + 1 + 1 ≤ k ∧ k < w'.heap.size) (fun k hk => ⟨by have h1 : w4.heap.size ≤ k := hk.1; omega, hk.2⟩))
         have H51 := hid (And.intro h51 h52)
         rw [HTN.out] at H51 ⊢
         clear hrow hb' h53 h51 h52))
  all_goals
    have HK6 := hid hk'
    clear hk' q0 q1 qx g0 g1 g2 g3 hrl4
    by_cases he4 : e4 = 0
    · subst he4
      have HEN : Hid (entryM d s b m n [x0, x1] = ((x0.1, TL), 0, 0)) := hid (by
        have h := Q3.out HV0.out (by rw [HT.out])
        rw [HT.out] at h
        exact h)
      obtain ⟨p0, p1⟩ := HK6.out.r.cells
      have pf := HK6.out.r.free 1
      have hk7 := HK6.out.put1 (.slice A5 TN c5)
      obtain ⟨W7, hW7⟩ : ∃ W7, w'.setCell ⟨w.heap.size + 1 + 1 + 1, 1, none⟩ (.slice A5 TN c5) = W7 := ⟨_, rfl⟩
      have htm : TimesIn W7 (fun k => w.heap.size + 1 + 1 + 1 + 1 ≤ k ∧ k < W7.heap.size) A5 TL := by
        rw [← hW7]
        exact (H53.out.kept (fun k hk => Below.heap_setCell _ ⟨w.heap.size + 1 + 1 + 1, 1, none⟩ _ k (by show k ≠ w.heap.size + 1 + 1 + 1; have := hk.1; omega))).mono (fun k hk => ⟨hk.1, by simpa [World.setCell] using hk.2⟩)
      rw [hW7] at hk7
      have cI := rindex_any Ar l cr X0 W7 ((HRI.out.below hk7.bw).mono (fun k hk => Nat.lt_of_lt_of_le hk hk7.bw.size)) (by rw [HLN.out]; omega)
      rw [show lst X0 = x0.1 from LX0.out, HLN.out] at cI
      have hpos := idxG_pos (codesL l) x0.1
      obtain ⟨J, hJ⟩ : ∃ J, idxG (codesL l) x0.1 0 = J := ⟨_, rfl⟩
      rw [hJ] at cI hpos
      have CI := hid cI
      have HK7 := hid hk7
      have HTM := hid htm
      clear hk7 htm cI hJ
      by_cases hm : x0.1 ∈ codesL l
      · have hJ0 : 0 ≤ J := hpos.2 hm
        have hJd : decide (0 ≤ J) = true := decide_eq_true hJ0
        have HREC : Hid (∀ ps, recM d s b m n (l, ps) (line, [x0, x1]) = (l, ps ++ [(line, 0, 11)])) := hid (fun ps => by
          rw [recM_add HEN.out]
          have ha : addC l x0.1 = 11 := if_pos hm
          dsimp only
          rw [ha]
          rfl)
        clear hpos hm
        go_upto_region 10 with fail
        (try rw [hW7])
        clear p1 pf
        obtain ⟨y0, y1⟩ := HK7.out.r.cells
        obtain ⟨z0, z1⟩ := HK7.out.z.cells
        have f0 := HK7.out.z.free 0
        have f1 := HK7.out.z.free 1
        go_wp2_with fail
        refine CI.out.mono ?_
        rintro e w8 ⟨rfl, rfl⟩
        go_wp2
        refine one_end (w := w) rfl rfl rfl rfl (Box2.set HK7.out.z _ _) ⟨⟨(x0.1, TL), (A5, c5), -1, 11, by rw [← BX0.out, ← HTN.out]; rfl, .inl ⟨by decide, rfl, HREC.out⟩⟩, HK7.out.fin _ _⟩
      · have hJ0 : ¬ 0 ≤ J := fun h => hm (hpos.1 h)
        have hJd : decide (0 ≤ J) = false := decide_eq_false hJ0
        by_cases h16 : LN = 32
        · have h16b : ((LN : Int) == 32) = true := by rw [h16]; rfl
          have HREC : Hid (∀ ps, recM d s b m n (l, ps) (line, [x0, x1]) = (l, ps ++ [(line, 0, 2)])) := hid (fun ps => by
            rw [recM_add HEN.out]
            have ha : addC l x0.1 = 2 := by unfold addC; rw [if_neg hm, HLN.out, if_pos h16]
            dsimp only
            rw [ha]
            rfl)
          clear hpos hm h16
          go_upto_region 10 with fail
          (try rw [hW7])
          clear p1 pf
          obtain ⟨y0, y1⟩ := HK7.out.r.cells
          obtain ⟨z0, z1⟩ := HK7.out.z.cells
          have f0 := HK7.out.z.free 0
          have f1 := HK7.out.z.free 1
          go_wp2_with fail
          refine CI.out.mono ?_
          rintro e w8 ⟨rfl, rfl⟩
          go_wp2
          refine one_end (w := w) rfl rfl rfl rfl (Box2.set HK7.out.z _ _) ⟨⟨(x0.1, TL), (A5, c5), -1, 2, by rw [← BX0.out, ← HTN.out]; rfl, .inl ⟨by decide, rfl, HREC.out⟩⟩, HK7.out.fin _ _⟩
        · have h16b : ((LN : Int) == 32) = false := by rw [beq_eq_false_iff_ne]; omega
          have HREC : Hid (∀ ps, recM d s b m n (l, ps) (line, [x0, x1]) = (l ++ [(x0.1, TL)], ps)) := hid (fun ps => by
            rw [recM_add HEN.out]
            have ha : addC l x0.1 = 0 := by unfold addC; rw [if_neg hm, HLN.out, if_neg h16]
            dsimp only
            rw [ha]
            rfl)
          clear hpos hm h16
          go_upto_region 10 with fail
          (try rw [hW7])
          clear p1 pf
          obtain ⟨y0, y1⟩ := HK7.out.r.cells
          obtain ⟨z0, z1⟩ := HK7.out.z.cells
          have f0 := HK7.out.z.free 0
          have f1 := HK7.out.z.free 1
          go_wp2_with fail
          refine CI.out.mono ?_
          rintro e w8 ⟨rfl, rfl⟩
          go_wp2
          refine one_end (w := w) rfl rfl rfl rfl (Box2.set HK7.out.z _ _) ⟨⟨(x0.1, TL), (A5, c5), 0, 0, by rw [← BX0.out, ← HTN.out]; rfl, .inr (.inr ⟨rfl, HREC.out, ?_⟩)⟩, HK7.out.fin _ _⟩
          have hel := fun k (hk : k ≠ w.heap.size + 1 + 1) => two_else W7 (w.heap.size + 1 + 1) k hk (.string X0) (.slice A5 TN c5)
          have hes := two_size W7 (w.heap.size + 1 + 1) (.string X0) (.slice A5 TN c5)
          have hcc := H51.out
          rw [← HTN.out] at hcc
          exact ⟨(HTM.out.kept (fun k hk => hel k (by omega))).mono (fun k hk => ⟨by omega, by rw [hes]; exact hk.2⟩), hcc.1, hcc.2⟩
    · have hez : (e4 != 0) = true := by simpa using he4
      have HNE := hid he4
      have HEQ : Hid ((entryM d s b m n [x0, x1]).2 = (x1.2.1, e4)) := hid (by
        have h := Q2.out HV0.out (by rw [HT.out]; exact he4)
        rw [HT.out] at h
        exact h)
      clear he4
      obtain ⟨y0, y1⟩ := HK6.out.r.cells
      obtain ⟨z0, z1⟩ := HK6.out.z.cells
      have f0 := HK6.out.z.free 0
      have f1 := HK6.out.z.free 1
      go_wp2
      refine one_end (w := w) rfl rfl rfl rfl (Box2.set HK6.out.z _ _) ⟨⟨(x0.1, []), (none, 0), (1 : Nat), e4, by rw [← BX0.out]; rfl, .inr (.inl ⟨HNE.out, ⟨1, by simp, by omega, rfl, fun ps => recM_err HEQ.out HNE.out⟩⟩)⟩, HK6.out.fin _ _⟩
end Go.Proofs.YtnpfmoalgphkcaaGreatDoor.S9

