/-
  A room out of a record by the specification. Conditions: the variables hold what their text lays; the record and the rooms lie in memory; each text has at most 2097152 bytes.
-/
import Derived.Test.YteckefolakjafaaGreatDoorBR22
import Derived.Test.YteckefolakjafaaGreatDoorBR23
import Derived.Test.YteckefolakjafaaGreatDoorBR27
import Derived.Test.YteckefolakjafaaGreatDoorBR33
import Derived.Test.YteckefolakjafaaGreatDoorBR34
import Derived.Test.YteckefolakjafaaGreatDoorBR35
import Derived.Deep.RegionHeld3
import Derived.Deep.DeepCutAuto
import Derived.Deep.CutBlock
import Derived.BigQuiet
set_option linter.unusedVariables false
namespace Go.Proofs.YteckefolakjafaaGreatDoor
open Go Go.Proofs Go.RowKit Go.Lib

theorem entry5 (d s b m n : Int) (f0 f1 f2 f3 f4 : FieldD) :
    (S3.validC f0.1 = false → (entryM d s b m n [f0, f1, f2, f3, f4]).2 = (f0.2.1, 10)) ∧
    (S3.validC f0.1 = true → S3.validC f1.1 = false → (entryM d s b m n [f0, f1, f2, f3, f4]).2 = (f1.2.1, 10)) ∧
    (S3.validC f0.1 = true → S3.validC f1.1 = true → numD 4 f2.1 = 0 → (entryM d s b m n [f0, f1, f2, f3, f4]).2 = (f2.2.1, 4)) ∧
    (S3.validC f0.1 = true → S3.validC f1.1 = true → numD 4 f2.1 ≠ 0 → (featsM f3.1).2 ≠ 0 → (entryM d s b m n [f0, f1, f2, f3, f4]).2 = (f3.2.1, (featsM f3.1).2)) ∧
    (S3.validC f0.1 = true → S3.validC f1.1 = true → numD 4 f2.1 ≠ 0 → (featsM f3.1).2 = 0 → (timesM d s b m n f4.1).2 ≠ 0 → (entryM d s b m n [f0, f1, f2, f3, f4]).2 = (f4.2.1, (timesM d s b m n f4.1).2)) ∧
    (S3.validC f0.1 = true → S3.validC f1.1 = true → numD 4 f2.1 ≠ 0 → (featsM f3.1).2 = 0 → (timesM d s b m n f4.1).2 = 0 → entryM d s b m n [f0, f1, f2, f3, f4] = ((f0.1, f1.1, ((numD 4 f2.1 : Nat) : Int), (featsM f3.1).1, (timesM d s b m n f4.1).1), 0, 0)) := by
  refine ⟨?_, ?_, ?_, ?_, ?_, ?_⟩
  all_goals
    intros
    simp_all [entryM, efold, setF, seatsM, zeroR]
theorem recM_err {d s b m n : Int} {st : List RoomD × List ProbD} {line col e : Int} {fs : List FieldD} (h : (entryM d s b m n fs).2 = (col, e)) (he : e ≠ 0) : recM d s b m n st (line, fs) = (st.1, st.2 ++ [(line, col, e)]) := by
  unfold recM
  dsimp only
  rw [h, if_pos he]
theorem recM_add {d s b m n : Int} {st : List RoomD × List ProbD} {line : Int} {fs : List FieldD} {r : RoomD} (h : entryM d s b m n fs = (r, 0, 0)) : recM d s b m n st (line, fs) = if addC st.1 r.1 ≠ 0 then (st.1, st.2 ++ [(line, 0, addC st.1 r.1)]) else (st.1 ++ [r], st.2) := by
  unfold recM
  dsimp only
  rw [h]
  simp
/-- What reading a room leaves behind. -/
def RoomOut (d s b m n : Int) (l : List RoomD) (line : Int) (fs : List FieldD) (w : World) (e : Ending) (w' : World) : Prop :=
  (∃ (r : RoomD) (q : Room5) (k e0 : Int), e = .returned (.tuple #[roomV r q, .int .i64 k, .int .i64 e0]) ∧
    ((e0 ≠ 0 ∧ k = -1 ∧ ∀ ps, recM d s b m n (l, ps) (line, fs) = (l, ps ++ [(line, 0, e0)])) ∨
     (e0 ≠ 0 ∧ (∃ (j : Nat) (hj : j < fs.length), j < 5 ∧ k = (j : Int) ∧ ∀ ps, recM d s b m n (l, ps) (line, fs) = (l, ps ++ [(line, fs[j].2.1, e0)]))) ∨
     (e0 = 0 ∧ (∀ ps, recM d s b m n (l, ps) (line, fs) = (l ++ [r], ps)) ∧ RoomIn w' (fun i => w.heap.size ≤ i ∧ i < w'.heap.size) r q))) ∧ Below w.heap.size w w'
theorem room_end {w W : World} {a : Act} {P : Ending → World → Prop} {k e0 : Int} {v0 v1 v2 v3 v4 : Value} (hp : a.tmps.getD 8 undef = .pointer (some ⟨w.heap.size + 1 + 1, 0, none⟩)) (hk : a.tmps.getD 9 undef = .int .i64 k) (he : a.tmps.getD 10 undef = .int .i64 e0) (hd : a.defers = [])
    (hz : Box5 W (w.heap.size + 1 + 1) v0 v1 v2 v3 v4) (hP : P (.returned (.tuple #[.agg #[v0, v1, v2, v3, v4], .int .i64 k, .int .i64 e0])) W) : bodyPost Tryz.prog Tryz.f32 P Exit.ret a W :=
  bodyPost_ret (v := .tuple #[.agg #[v0, v1, v2, v3, v4], .int .i64 k, .int .i64 e0]) (results_ctt rfl _ _ _ ⟨w.heap.size + 1 + 1, 0, none⟩ _ _ _ hp hk he (load5 hz.cells)) hd hP
/-- The boxes of the record, the grid, the result, the room that is being read. -/
structure RK (w0 : World) (line : Int) (A : Option Addr) (c : Nat) (d s b m : Int) (v0 v1 v2 v3 v4 : Value) (W : World) : Prop where
  g : Box4 W (w0.heap.size + 1) d s b m
  z : Box5 W (w0.heap.size + 1 + 1) (.string ⟨#[]⟩) (.string ⟨#[]⟩) (.int .i64 0) (.slice none 0 0) (.slice none 0 0)
  r : Box5 W (w0.heap.size + 1 + 1 + 1) v0 v1 v2 v3 v4
  b : Below w0.heap.size w0 W
section
variable {w0 W W' : World} {line : Int} {A : Option Addr} {c : Nat} {d s b m : Int} {v0 v1 v2 v3 v4 : Value}
theorem RK.next (h : RK w0 line A c d s b m v0 v1 v2 v3 v4 W) (k : Below W.heap.size W W') : RK w0 line A c d s b m v0 v1 v2 v3 v4 W' :=
  ⟨h.g.next k h.g.lt, h.z.below k h.z.lt, h.r.below k h.r.lt, h.b.trans (k.mono h.b.size)⟩
theorem below_put (W : World) (R j : Nat) (v : Value) : Below R W (W.setCell ⟨R, j, none⟩ v) := (Below.refl R W).setCell (p := ⟨R, j, none⟩) (Nat.le_refl _) v
theorem RK.put2 (h : RK w0 line A c d s b m v0 v1 v2 v3 v4 W) (u : Value) : RK w0 line A c d s b m v0 v1 u v3 v4 (W.setCell ⟨w0.heap.size + 1 + 1 + 1, 2, none⟩ u) :=
  ⟨h.g.next (below_put W _ 2 u) (by omega), h.z.below (below_put W _ 2 u) (by omega), h.r.put2 u, h.b.trans ((below_put W _ 2 u).mono (by omega))⟩
theorem RK.put3 (h : RK w0 line A c d s b m v0 v1 v2 v3 v4 W) (u : Value) : RK w0 line A c d s b m v0 v1 v2 u v4 (W.setCell ⟨w0.heap.size + 1 + 1 + 1, 3, none⟩ u) :=
  ⟨h.g.next (below_put W _ 3 u) (by omega), h.z.below (below_put W _ 3 u) (by omega), h.r.put3 u, h.b.trans ((below_put W _ 3 u).mono (by omega))⟩
theorem RK.put4 (h : RK w0 line A c d s b m v0 v1 v2 v3 v4 W) (u : Value) : RK w0 line A c d s b m v0 v1 v2 v3 u (W.setCell ⟨w0.heap.size + 1 + 1 + 1, 4, none⟩ u) :=
  ⟨h.g.next (below_put W _ 4 u) (by omega), h.z.below (below_put W _ 4 u) (by omega), h.r.put4 u, h.b.trans ((below_put W _ 4 u).mono (by omega))⟩
theorem RK.fin (h : RK w0 line A c d s b m v0 v1 v2 v3 v4 W) (u0 u1 u2 u3 u4 : Value) : Below w0.heap.size w0 (((((W.setCell ⟨w0.heap.size + 1 + 1, 0, none⟩ u0).setCell ⟨w0.heap.size + 1 + 1, 1, none⟩ u1).setCell ⟨w0.heap.size + 1 + 1, 2, none⟩ u2).setCell ⟨w0.heap.size + 1 + 1, 3, none⟩ u3).setCell ⟨w0.heap.size + 1 + 1, 4, none⟩ u4) :=
  ((((h.b.setCell (p := ⟨w0.heap.size + 1 + 1, 0, none⟩) (by show w0.heap.size ≤ w0.heap.size + 1 + 1; omega) u0).setCell (p := ⟨w0.heap.size + 1 + 1, 1, none⟩) (by show w0.heap.size ≤ w0.heap.size + 1 + 1; omega) u1).setCell (p := ⟨w0.heap.size + 1 + 1, 2, none⟩) (by show w0.heap.size ≤ w0.heap.size + 1 + 1; omega) u2).setCell (p := ⟨w0.heap.size + 1 + 1, 3, none⟩) (by show w0.heap.size ≤ w0.heap.size + 1 + 1; omega) u3).setCell (p := ⟨w0.heap.size + 1 + 1, 4, none⟩) (by show w0.heap.size ≤ w0.heap.size + 1 + 1; omega) u4
theorem five_else (W : World) (R k : Nat) (hk : k ≠ R) (u0 u1 u2 u3 u4 : Value) : (((((W.setCell ⟨R, 0, none⟩ u0).setCell ⟨R, 1, none⟩ u1).setCell ⟨R, 2, none⟩ u2).setCell ⟨R, 3, none⟩ u3).setCell ⟨R, 4, none⟩ u4).heap[k]? = W.heap[k]? := by
  rw [Below.heap_setCell _ ⟨R, 4, none⟩ _ k hk, Below.heap_setCell _ ⟨R, 3, none⟩ _ k hk, Below.heap_setCell _ ⟨R, 2, none⟩ _ k hk, Below.heap_setCell _ ⟨R, 1, none⟩ _ k hk, Below.heap_setCell _ ⟨R, 0, none⟩ _ k hk]
theorem five_size (W : World) (R : Nat) (u0 u1 u2 u3 u4 : Value) : (((((W.setCell ⟨R, 0, none⟩ u0).setCell ⟨R, 1, none⟩ u1).setCell ⟨R, 2, none⟩ u2).setCell ⟨R, 3, none⟩ u3).setCell ⟨R, 4, none⟩ u4).heap.size = W.heap.size := by simp [World.setCell]
end

set_option maxHeartbeats 16000000 in
set_option maxRecDepth 100000 in
/-- A record with another number of fields. -/
theorem roomW_any (d s b m n line : Int) (A' : Option Addr) (fs : List FieldD) (c' : Nat) (Ar : Option Addr) (l : List RoomD) (cr : Nat) (w : World) (h5 : fs.length ≠ 5) :
    Calls Tryz.prog 32 #[.agg #[.int .i64 line, .slice A' fs.length c'], .agg #[.int .i64 d, .int .i64 s, .int .i64 b, .int .i64 m], .int .i64 n, .slice Ar l.length cr] w (RoomOut d s b m n l line fs w) := by
  have hrec : Hid (∀ ps, recM d s b m n (l, ps) (line, fs) = (l, ps ++ [(line, 0, 9)])) := hid (fun ps => recM_err (by unfold entryM; rw [if_pos h5]) (by decide))
  obtain ⟨F, hF⟩ : ∃ F, fs.length = F := ⟨_, rfl⟩
  rw [hF] at h5 ⊢
  have hn5 : ((F : Int) != 5) = true := by simp; omega
  obtain ⟨L, hL⟩ : ∃ L, l.length = L := ⟨_, rfl⟩
  rw [hL]
  clear hF hL h5
  go_enter Tryz.func32, Tryz.ntmps32
  go_wp2
  have hz : Box5 (((w.alloc (.cells #[.int .i64 line, .slice A' F c'] 36)).alloc (.cells #[.int .i64 d, .int .i64 s, .int .i64 b, .int .i64 m] 24)).alloc (.cells #[.string ⟨#[]⟩, .string ⟨#[]⟩, .int .i64 0, .slice none 0 0, .slice none 0 0] 46)) (w.heap.size + 1 + 1) (.string ⟨#[]⟩) (.string ⟨#[]⟩) (.int .i64 0) (.slice none 0 0) (.slice none 0 0) := by
    simpa using Box5.new ((w.alloc (.cells #[.int .i64 line, .slice A' F c'] 36)).alloc (.cells #[.int .i64 d, .int .i64 s, .int .i64 b, .int .i64 m] 24)) (.string ⟨#[]⟩) (.string ⟨#[]⟩) (.int .i64 0) (.slice none 0 0) (.slice none 0 0)
  exact room_end (w := w) rfl rfl rfl rfl hz ⟨⟨zeroR, ⟨none, 0, none, 0⟩, -1, 9, rfl, .inl ⟨by decide, rfl, hrec.out⟩⟩, (((Below.refl _ w).alloc (Nat.le_refl _) _).alloc (by simp) _).alloc (by simp; omega) _⟩

set_option maxHeartbeats 16000000 in
set_option maxRecDepth 100000 in
theorem room5_any (d s b m n line : Int) (A' : Option Addr) (x0 x1 x2 x3 x4 : FieldD) (c' : Nat) (Ar : Option Addr) (l : List RoomD) (cr : Nat) (w : World)
    (hf : FieldsIn w (fun k => k < w.heap.size) A' [x0, x1, x2, x3, x4]) (hr : RoomsIn w (fun k => k < w.heap.size) Ar l) (hl : l.length ≤ 16) (hsz : ∀ f ∈ [x0, x1, x2, x3, x4], f.1.length ≤ 2097152) (hE : REnv7 w) :
    Calls Tryz.prog 32 #[.agg #[.int .i64 line, .slice A' 5 c'], .agg #[.int .i64 d, .int .i64 s, .int .i64 b, .int .i64 m], .int .i64 n, .slice Ar l.length cr] w (RoomOut d s b m n l line [x0, x1, x2, x3, x4] w) := by
  obtain ⟨q1, q2, q3, q4, q5, q6⟩ := entry5 d s b m n x0 x1 x2 x3 x4
  have Q1 := hid q1
  have Q2 := hid q2
  have Q3 := hid q3
  have Q4 := hid q4
  have Q5 := hid q5
  have Q6 := hid q6
  obtain ⟨fb, fo, rfl, hfb, hcells⟩ : ∃ fb fo, A' = some ⟨fb, fo, none⟩ ∧ fb < w.heap.size ∧ ∀ (j : Nat) (t : FieldD), [x0, x1, x2, x3, x4][j]? = some t → ∀ (i : Nat) (v : Value), (fieldVs t)[i]? = some v → w.cell? ⟨fb, fo + j * 3 + i, none⟩ = some v := by
    rcases hf with h | ⟨b, off, hA, hP, hc⟩
    · cases h
    · exact ⟨b, off, hA, hP, hc⟩
  obtain ⟨X0, hX0⟩ : ∃ X, ba x0.1 = X := ⟨_, rfl⟩
  obtain ⟨X1, hX1⟩ : ∃ X, ba x1.1 = X := ⟨_, rfl⟩
  obtain ⟨X2, hX2⟩ : ∃ X, ba x2.1 = X := ⟨_, rfl⟩
  obtain ⟨X3, hX3⟩ : ∃ X, ba x3.1 = X := ⟨_, rfl⟩
  obtain ⟨X4, hX4⟩ : ∃ X, ba x4.1 = X := ⟨_, rfl⟩
  have LX0 : Hid (lst X0 = x0.1) := hid (by rw [← hX0]; rfl)
  have LX1 : Hid (lst X1 = x1.1) := hid (by rw [← hX1]; rfl)
  have LX2 : Hid (lst X2 = x2.1) := hid (by rw [← hX2]; rfl)
  have LX3 : Hid (lst X3 = x3.1) := hid (by rw [← hX3]; rfl)
  have LX4 : Hid (lst X4 = x4.1) := hid (by rw [← hX4]; rfl)
  have BX0 : Hid (ba x0.1 = X0) := hid hX0
  have BX1 : Hid (ba x1.1 = X1) := hid hX1
  have hz3 : X3.size ≤ 2097152 := by rw [← hX3]; exact hsz x3 (by simp)
  have hz4 : X4.size ≤ 2097152 := by rw [← hX4]; exact hsz x4 (by simp)
  have HF : Hid (∀ W, Below w.heap.size w W → W.cell? ⟨fb, fo, none⟩ = some (.string X0) ∧ W.cell? ⟨fb, fo + 3, none⟩ = some (.string X1) ∧ W.cell? ⟨fb, fo + 6, none⟩ = some (.string X2) ∧ W.cell? ⟨fb, fo + 9, none⟩ = some (.string X3) ∧ W.cell? ⟨fb, fo + 12, none⟩ = some (.string X4)) := hid (fun W hb => by
    have k : ∀ o, W.cell? ⟨fb, o, none⟩ = w.cell? ⟨fb, o, none⟩ := fun o => hb.cell (p := ⟨fb, o, none⟩) hfb
    rw [k, k, k, k, k, ← hX0, ← hX1, ← hX2, ← hX3, ← hX4]
    exact ⟨hcells 0 x0 rfl 0 _ rfl, hcells 1 x1 rfl 0 _ rfl, hcells 2 x2 rfl 0 _ rfl, hcells 3 x3 rfl 0 _ rfl, hcells 4 x4 rfl 0 _ rfl⟩)
  have HRI := hid hr
  have HE := hid hE
  obtain ⟨LN, hLN⟩ : ∃ L, l.length = L := ⟨_, rfl⟩
  have HLN := hid hLN
  rw [hLN] at hl ⊢
  obtain ⟨w3, hw3⟩ : ∃ w3, ((w.alloc (.cells #[.int .i64 line, .slice (some ⟨fb, fo, none⟩) 5 c'] 36)).alloc (.cells #[.int .i64 d, .int .i64 s, .int .i64 b, .int .i64 m] 24)).alloc (.cells #[.string ⟨#[]⟩, .string ⟨#[]⟩, .int .i64 0, .slice none 0 0, .slice none 0 0] 46) = w3 := ⟨_, rfl⟩
  obtain ⟨hx3, hg3, hzz3, hb3, hs3⟩ : w3.heap[w.heap.size]? = some (.cells #[.int .i64 line, .slice (some ⟨fb, fo, none⟩) 5 c'] 36 (0, 0)) ∧ Box4 w3 (w.heap.size + 1) d s b m ∧ Box5 w3 (w.heap.size + 1 + 1) (.string ⟨#[]⟩) (.string ⟨#[]⟩) (.int .i64 0) (.slice none 0 0) (.slice none 0 0) ∧ Below w.heap.size w w3 ∧ w3.heap.size = w.heap.size + 1 + 1 + 1 := by
    rw [← hw3]
    have hb1 := (Below.refl w.heap.size w).alloc (Nat.le_refl _) (.cells #[.int .i64 line, .slice (some ⟨fb, fo, none⟩) 5 c'] 36)
    have e1 := heap_alloc_new w (.cells #[.int .i64 line, .slice (some ⟨fb, fo, none⟩) 5 c'] 36)
    have hs1 : (w.alloc (.cells #[.int .i64 line, .slice (some ⟨fb, fo, none⟩) 5 c'] 36)).heap.size = w.heap.size + 1 := by simp
    generalize w.alloc (.cells #[.int .i64 line, .slice (some ⟨fb, fo, none⟩) 5 c'] 36) = u1 at hb1 e1 hs1 ⊢
    have g2 := Box4.new u1 d s b m 24
    have hb2 := (Below.refl u1.heap.size u1).alloc (Nat.le_refl _) (.cells #[.int .i64 d, .int .i64 s, .int .i64 b, .int .i64 m] 24)
    have hs2 : (u1.alloc (.cells #[.int .i64 d, .int .i64 s, .int .i64 b, .int .i64 m] 24)).heap.size = u1.heap.size + 1 := by simp
    generalize u1.alloc (.cells #[.int .i64 d, .int .i64 s, .int .i64 b, .int .i64 m] 24) = u2 at hb2 g2 hs2 ⊢
    have g3 := Box5.new u2 (.string ⟨#[]⟩) (.string ⟨#[]⟩) (.int .i64 0) (.slice none 0 0) (.slice none 0 0)
    have hbx := (Below.refl u2.heap.size u2).alloc (Nat.le_refl _) (.cells #[.string ⟨#[]⟩, .string ⟨#[]⟩, .int .i64 0, .slice none 0 0, .slice none 0 0] 46)
    refine ⟨(hbx.block _ (by omega)).trans ((hb2.block _ (by omega)).trans e1), ?_, ?_, hb1.trans ((hb2.trans (hbx.mono (by omega))).mono (by omega)), by simp [hs1, hs2]⟩
    · rw [← hs1]; exact g2.next hbx (by omega)
    · rw [← hs1, ← hs2]; exact g3
  have hw1 : w3.cell? ⟨w.heap.size, 1, none⟩ = some (.slice (some ⟨fb, fo, none⟩) 5 c') := by rw [Lib.cell_of_heap hx3]; rfl
  obtain ⟨y0, y1, -, -, -⟩ := HF.out w3 hb3
  have HG3 := hid hg3
  have HZ3 := hid hzz3
  have HB3 := hid hb3
  clear q1 q2 q3 q4 q5 q6 hf hcells hX0 hX1 hX2 hX3 hX4 hr hE hLN hx3 hg3 hzz3 hb3 hsz
  have HS3 := hid hs3
  clear hs3
  go_enter Tryz.func32, Tryz.ntmps32
  go_upto_region 4 with fail
  (try rw [hw3])
  clear hw3
  go_cut [12] (fun pv wx => pv = .pointer (some ⟨w.heap.size + 1 + 1 + 1, 0, none⟩) ∧ Hid (RK w line (some ⟨fb, fo, none⟩) c' d s b m (.string X0) (.string X1) (.int .i64 0) (.slice none 0 0) (.slice none 0 0) wx))
  case first =>
    have hfb3 : fb < w3.heap.size := by have := HS3.out; omega
    have hfb4 : fb ≠ w3.heap.size := by omega
    go_region
    all_goals
      go_wp2_with fail
      go_meet
      have hbb := (Below.refl w3.heap.size w3).alloc (Nat.le_refl _) (.cells #[.string X0, .string X1, .int .i64 0, .slice none 0 0, .slice none 0 0] 46)
      have hrr := Box5.new w3 (.string X0) (.string X1) (.int .i64 0) (.slice none 0 0) (.slice none 0 0)
      rw [HS3.out] at hrr
      have hkk : RK w line (some ⟨fb, fo, none⟩) c' d s b m (.string X0) (.string X1) (.int .i64 0) (.slice none 0 0) (.slice none 0 0) (w3.alloc (.cells #[.string X0, .string X1, .int .i64 0, .slice none 0 0, .slice none 0 0] 46)) :=
        ⟨HG3.out.next hbb HG3.out.lt, HZ3.out.below hbb HZ3.out.lt, hrr, HB3.out.trans (hbb.mono HB3.out.size)⟩
      exact ⟨by rw [HS3.out], hid (hkk.next (Below.refl _ _).drew)⟩
  case rest =>
    obtain ⟨rfl, HK⟩ := hcut
    clear y0 y1 hw1 HG3 HZ3 HB3 HS3
    have cV0 := hid (fun w => S3.refValid_any X0 w)
    have cV0' := cV0.out
    simp only [show X0.data.toList = x0.1 from LX0.out] at cV0'
    cases hv0 : S3.validC x0.1 with
    | false =>
      rw [hv0] at cV0'
      have CV := hid cV0'
      have HEQ := hid (Q1.out hv0)
      clear cV0 cV0' hv0
      obtain ⟨y0, -, -, -, -⟩ := HK.out.r.cells
      go_wp2_with fail
      refine (CV.out _).mono ?_
      rintro e w' ⟨rfl, rfl⟩
      clear y0
      obtain ⟨y0, y1, y2, y3, y4⟩ := HK.out.r.cells
      obtain ⟨z0, z1, z2, z3, z4⟩ := HK.out.z.cells
      have f0 := HK.out.z.free 0
      have f1 := HK.out.z.free 1
      have f2 := HK.out.z.free 2
      have f3 := HK.out.z.free 3
      have f4 := HK.out.z.free 4
      go_wp2
      refine room_end (w := w) rfl rfl rfl rfl (HK.out.z.set _ _ _ _ _) ⟨⟨(x0.1, x1.1, 0, [], []), ⟨none, 0, none, 0⟩, (0 : Nat), 10, by rw [← BX0.out, ← BX1.out]; rfl, .inr (.inl ⟨(by decide), ⟨0, by simp, by omega, rfl, fun ps => recM_err HEQ.out (by decide)⟩⟩)⟩, HK.out.fin _ _ _ _ _⟩
    | true =>
      rw [hv0] at cV0'
      have CV0 := hid cV0'
      have HV0 := hid hv0
      clear cV0 cV0' hv0
      obtain ⟨y0, y1, -, -, -⟩ := HK.out.r.cells
      go_wp2_with fail
      refine (CV0.out _).mono ?_
      rintro e w' ⟨rfl, rfl⟩
      have cV1 := hid (fun w => S3.refValid_any X1 w)
      have cV1' := cV1.out
      simp only [show X1.data.toList = x1.1 from LX1.out] at cV1'
      cases hv1 : S3.validC x1.1 with
      | false =>
        rw [hv1] at cV1'
        have CV := hid cV1'
        have HEQ := hid (Q2.out HV0.out hv1)
        clear cV1 cV1' hv1
        go_wp2_with fail
        refine (CV.out _).mono ?_
        rintro e w' ⟨rfl, rfl⟩
        clear y0 y1
        obtain ⟨y0, y1, y2, y3, y4⟩ := HK.out.r.cells
        obtain ⟨z0, z1, z2, z3, z4⟩ := HK.out.z.cells
        have f0 := HK.out.z.free 0
        have f1 := HK.out.z.free 1
        have f2 := HK.out.z.free 2
        have f3 := HK.out.z.free 3
        have f4 := HK.out.z.free 4
        go_wp2
        refine room_end (w := w) rfl rfl rfl rfl (HK.out.z.set _ _ _ _ _) ⟨⟨(x0.1, x1.1, 0, [], []), ⟨none, 0, none, 0⟩, (1 : Nat), 10, by rw [← BX0.out, ← BX1.out]; rfl, .inr (.inl ⟨(by decide), ⟨1, by simp, by omega, rfl, fun ps => recM_err HEQ.out (by decide)⟩⟩)⟩, HK.out.fin _ _ _ _ _⟩
      | true =>
        rw [hv1] at cV1'
        have CV1 := hid cV1'
        have HV1 := hid hv1
        clear cV1 cV1' hv1
        have cD := hid (fun w => digits4_any X2 w)
        have cD' := cD.out
        simp only [show lst X2 = x2.1 from LX2.out] at cD'
        obtain ⟨hd0, hd1⟩ := digP_num x2.1
        have HD0 := hid hd0
        have HD1 := hid hd1
        obtain ⟨D, hD⟩ : ∃ D, digP x2.1 = D := ⟨_, rfl⟩
        rw [hD] at cD' hd0 hd1
        have CD := hid cD'
        obtain ⟨-, -, u2, -, -⟩ := HF.out _ HK.out.b
        by_cases hN : numD 4 x2.1 = 0
        · have HEQ := hid (Q3.out HV0.out HV1.out hN)
          have hd := hd0 hN
          obtain ⟨dz, dk⟩ := D
          dsimp only at hd
          clear hN hd0 hd1 HD0 HD1 cD cD' hD
          cases dk with
          | false =>
            clear hd
            go_wp2_with fail
            refine (CV1.out _).mono ?_
            rintro e w' ⟨rfl, rfl⟩
            go_wp2_with fail
            refine (CD.out _).mono ?_
            rintro e w' ⟨rfl, rfl⟩
            dsimp only
            clear y0 y1 u2
            obtain ⟨y0, y1, y2, y3, y4⟩ := HK.out.r.cells
            obtain ⟨z0, z1, z2, z3, z4⟩ := HK.out.z.cells
            have f0 := HK.out.z.free 0
            have f1 := HK.out.z.free 1
            have f2 := HK.out.z.free 2
            have f3 := HK.out.z.free 3
            have f4 := HK.out.z.free 4
            go_wp2
            refine room_end (w := w) rfl rfl rfl rfl (HK.out.z.set _ _ _ _ _) ⟨⟨(x0.1, x1.1, 0, [], []), ⟨none, 0, none, 0⟩, (2 : Nat), 4, by rw [← BX0.out, ← BX1.out]; rfl, .inr (.inl ⟨(by decide), ⟨2, by simp, by omega, rfl, fun ps => recM_err HEQ.out (by decide)⟩⟩)⟩, HK.out.fin _ _ _ _ _⟩
          | true =>
            obtain rfl : dz = 0 := by simpa using hd
            clear hd
            go_wp2_with fail
            refine (CV1.out _).mono ?_
            rintro e w' ⟨rfl, rfl⟩
            go_wp2_with fail
            refine (CD.out _).mono ?_
            rintro e w' ⟨rfl, rfl⟩
            dsimp only
            clear y0 y1 u2
            obtain ⟨y0, y1, y2, y3, y4⟩ := HK.out.r.cells
            obtain ⟨z0, z1, z2, z3, z4⟩ := HK.out.z.cells
            have f0 := HK.out.z.free 0
            have f1 := HK.out.z.free 1
            have f2 := HK.out.z.free 2
            have f3 := HK.out.z.free 3
            have f4 := HK.out.z.free 4
            go_wp2
            refine room_end (w := w) rfl rfl rfl rfl (HK.out.z.set _ _ _ _ _) ⟨⟨(x0.1, x1.1, 0, [], []), ⟨none, 0, none, 0⟩, (2 : Nat), 4, by rw [← BX0.out, ← BX1.out]; rfl, .inr (.inl ⟨(by decide), ⟨2, by simp, by omega, rfl, fun ps => recM_err HEQ.out (by decide)⟩⟩)⟩, HK.out.fin _ _ _ _ _⟩
        · have hd := hd1 hN
          subst hd
          have HN := hid hN
          have hNz : (((numD 4 x2.1 : Nat) : Int) == 0) = false := by rw [beq_eq_false_iff_ne]; omega
          obtain ⟨NN, hNN⟩ : ∃ NN : Int, ((numD 4 x2.1 : Nat) : Int) = NN := ⟨_, rfl⟩
          rw [hNN] at hNz
          have cD2 := CD.out
          rw [hNN] at cD2
          have CD2 := hid cD2
          have HNN := hid hNN
          clear hd0 hd1 HD0 HD1 cD cD' hN hNN cD2 CD hD
          go_wp2_with fail
          refine (CV1.out _).mono ?_
          rintro e w' ⟨rfl, rfl⟩
          go_wp2_with fail
          refine (CD2.out _).mono ?_
          rintro e w' ⟨rfl, rfl⟩
          dsimp only
          have r2 := HK.out.r.free 2
          obtain ⟨-, -, y2, -, -⟩ := HK.out.r.cells
          have hk2 := HK.out.put2 (.int .i64 NN)
          obtain ⟨W2, hW2⟩ : ∃ W2, wc.setCell ⟨w.heap.size + 1 + 1 + 1, 2, none⟩ (.int .i64 NN) = W2 := ⟨_, rfl⟩
          rw [hW2] at hk2
          obtain ⟨-, -, -, u3, -⟩ := HF.out W2 hk2.b
          have cS := short_any X3 hz3 W2
          rw [show lst X3 = x3.1 from LX3.out] at cS
          obtain ⟨hfs1, hfs2⟩ := featsM_short x3.1
          obtain ⟨⟨l3, e3⟩, hS3⟩ : ∃ S, shortM x3.1 = S := ⟨_, rfl⟩
          rw [hS3] at cS hfs1 hfs2
          unfold S3.ListOut at cS
          dsimp only at cS hfs1 hfs2
          have CS := hid cS
          have HK2 := hid hk2
          have HFS1 := hid hfs1
          have HFS2 := hid hfs2
          clear y0 y1 u2 cS hk2 hfs1 hfs2 hS3
          go_wp2_with fail
          (try rw [hW2])
          clear hW2 y2 r2
          refine CS.out.mono ?_
          rintro e W3 ⟨⟨v3, rfl, hrow3⟩, hb3⟩
          obtain ⟨A3, c3, rfl, hl3, hc3, hin3⟩ := hrow3.strsIn
          have HK3 := hid (HK2.out.next hb3)
          have HIN3 := hid (hin3.mono (P' := fun k => k < W3.heap.size) (fun k hk => hk.2))
          clear hrow3 hb3 hin3 u3 CS HK2
          by_cases he3 : e3 = 0
          · subst he3
            have hft := HFS2.out HFS1.out
            obtain ⟨hft1, hft2⟩ := hft
            have cA := ascending_any A3 l3 c3 W3 HIN3.out (by omega)
            rw [show (l3.mergeSort fun x y => decide (x ≤ y)) = (featsM x3.1).1 from hft1.symm] at cA
            obtain ⟨FL, hFL⟩ : ∃ FL, (featsM x3.1).1 = FL := ⟨_, rfl⟩
            rw [hFL] at cA
            have CA := hid cA
            have HFL := hid hFL
            obtain ⟨N3, hN3⟩ : ∃ N3, l3.length = N3 := ⟨_, rfl⟩
            have hfl8 : Hid (FL.length ≤ 8) := hid (by rw [← hFL, hft1, sortS_len]; exact hft2)
            rw [hN3] at CA
            simp only [hN3]
            clear cA hFL hft1 hft2 hN3 hl3 hc3
            go_wp2_with fail
            refine CA.out.mono ?_
            rintro e W4 ⟨⟨v4, rfl, hrow4⟩, hb4⟩
            obtain ⟨A4, c4, rfl, hl4, hc4, hin4⟩ := hrow4.strsIn
            have hk4 := HK3.out.next hb4
            have hz3 := HK3.out.r.lt
            have hin4' : S3.StrsIn W4 (fun k => w.heap.size + 1 + 1 + 1 + 1 ≤ k ∧ k < W4.heap.size) A4 FL := hin4.mono (fun k hk => ⟨by omega, hk.2⟩)
            have HK4 := hid hk4
            have HIN4 := hid hin4'
            have r3 := hk4.r.free 3
            obtain ⟨-, -, -, y3, -⟩ := hk4.r.cells
            obtain ⟨FN, hFN⟩ : ∃ FN, FL.length = FN := ⟨_, rfl⟩
            have HFN := hid hFN
            rw [hFN] at hl4 ⊢
            clear hk4 hin4 hin4' hrow4 hb4 CA hz3 hFN
            have hk5 := HK4.out.put3 (.slice A4 FN c4)
            obtain ⟨W5, hW5⟩ : ∃ W5, W4.setCell ⟨w.heap.size + 1 + 1 + 1, 3, none⟩ (.slice A4 FN c4) = W5 := ⟨_, rfl⟩
            have hin5 : S3.StrsIn W5 (fun k => w.heap.size + 1 + 1 + 1 + 1 ≤ k ∧ k < W5.heap.size) A4 FL := by
              rw [← hW5]
              exact (HIN4.out.kept (fun k hk => Below.heap_setCell W4 ⟨w.heap.size + 1 + 1 + 1, 3, none⟩ _ k (by show k ≠ w.heap.size + 1 + 1 + 1; have := hk.1; omega))).mono (fun k hk => ⟨hk.1, by simpa [World.setCell] using hk.2⟩)
            rw [hW5] at hk5
            have HK5 := hid hk5
            have HIN5 := hid hin5
            clear hk5 hin5 HK3 HK4 HIN3 HIN4
            go_upto_region 17 with fail
            (try rw [hW5])
            clear hW5 y3 r3
            have hst4 := timesM_start d s b m n x4.1
            obtain ⟨⟨TL, e4⟩, hT⟩ : ∃ T, timesM d s b m n x4.1 = T := ⟨_, rfl⟩
            rw [hT] at hst4
            have cT : Hid (∀ wx, Below w.heap.size w wx → Calls Tryz.prog 63 #[.string X4, .agg #[.int .i64 d, .int .i64 s, .int .i64 b, .int .i64 m], .int .i64 n] wx fun e w' => (∃ v, e = .returned (.tuple #[v, .int .i64 e4]) ∧ TimeRow w' wx.heap.size v TL) ∧ Below wx.heap.size wx w') := hid (fun wx hx => by
              have h := rtimes_any d s b m n X4 hz4 wx (HE.out.below hx (Nat.le_refl _))
              rw [show lst X4 = x4.1 from LX4.out, hT] at h
              exact h)
            have HST := hid hst4
            have HT := hid hT
            obtain ⟨TN, hTN⟩ : ∃ TN, TL.length = TN := ⟨_, rfl⟩
            have HTN := hid hTN
            clear hst4 hT hTN
            go_cut [16] (fun ev wx => ev = .int .i64 e4 ∧ ∃ (A5 : Option Addr) (c5 : Nat), Hid (RK w line (some ⟨fb, fo, none⟩) c' d s b m (.string X0) (.string X1) (.int .i64 NN) (.slice A4 FN c4) (.slice A5 TN c5) wx) ∧ Hid (S3.StrsIn wx (fun k => w.heap.size + 1 + 1 + 1 + 1 ≤ k ∧ k < wx.heap.size) A4 FL) ∧ Hid (TimesIn wx (fun k => w.heap.size + 1 + 1 + 1 + 1 ≤ k ∧ k < wx.heap.size) A5 TL) ∧ Hid (TN ≤ c5 ∧ c5 ≤ 9223372036854775807))
            case first =>
              have hk' := HK5.out.next (Below.refl _ W5).drew
              have hzz := HK5.out.r.lt
              go_region_held3 (fun w' => w'.cell? ⟨w.heap.size + 1, 0, none⟩ = some (.int .i64 d) ∧ w'.cell? ⟨w.heap.size + 1, 1, none⟩ = some (.int .i64 s) ∧ w'.cell? ⟨w.heap.size + 1, 2, none⟩ = some (.int .i64 b) ∧ w'.cell? ⟨w.heap.size + 1, 3, none⟩ = some (.int .i64 m) ∧ w'.cell? ⟨fb, fo + 12, none⟩ = some (.string X4))
                (first | with_reducible exact ⟨hk'.g.c0, hk'.g.c1, hk'.g.c2, hk'.g.c3, (HF.out _ hk'.b).2.2.2.2⟩ | with_reducible exact ⟨(hk'.put4 _).g.c0, (hk'.put4 _).g.c1, (hk'.put4 _).g.c2, (hk'.put4 _).g.c3, (HF.out _ (hk'.put4 _).b).2.2.2.2⟩)
                (first
                  | (go_at_call 63; refine (cT.out _ hk'.b).mono ?_; rintro e w' ⟨⟨v, rfl, hrow⟩, hb'⟩; have hk' := hk'.next hb'
                     obtain ⟨A5, c5, rfl, h51, h52, h53⟩ := TimeRow.timesIn hrow HST.out
                     have p4 := hk'.r.cells.2.2.2.2
                     have f4 := hk'.r.free 4
                     have H53 := hid (h53.mono (P' := fun k => w.heap.size + 1 + 1 + 1 + 1 ≤ k ∧ k < w'.heap.size) (fun k hk => ⟨by have h1 : W5.heap.size ≤ k := hk.1; omega, hk.2⟩))
                     have H54 := hid ((HIN5.out.kept (w' := w') (fun k hk => hb'.block k hk.2)).mono (P' := fun k => w.heap.size + 1 + 1 + 1 + 1 ≤ k ∧ k < w'.heap.size) (fun k hk => ⟨hk.1, Nat.lt_of_lt_of_le hk.2 hb'.size⟩))
                     have H51 := hid (And.intro h51 h52)
                     rw [HTN.out] at H51 ⊢
                     clear hrow hb' h53 h51 h52))
              all_goals
                go_wp2_with fail
                go_meet
                refine ⟨rfl, A5, c5, hid (hk'.put4 _), hid ?_, hid ?_, H51⟩
                · exact (H54.out.kept (fun k hk => Below.heap_setCell _ ⟨w.heap.size + 1 + 1 + 1, 4, none⟩ _ k (by show k ≠ w.heap.size + 1 + 1 + 1; have := hk.1; omega))).mono (fun k hk => ⟨hk.1, by simpa [World.setCell] using hk.2⟩)
                · exact (H53.out.kept (fun k hk => Below.heap_setCell _ ⟨w.heap.size + 1 + 1 + 1, 4, none⟩ _ k (by show k ≠ w.heap.size + 1 + 1 + 1; have := hk.1; omega))).mono (fun k hk => ⟨hk.1, by simpa [World.setCell] using hk.2⟩)
            case rest =>
              obtain ⟨rfl, A5, c5, HK6, HIN6, HTM6, HC5⟩ := hcut
              clear HK5 HIN5
              by_cases he4 : e4 = 0
              · subst he4
                have HEN : Hid (entryM d s b m n [x0, x1, x2, x3, x4] = ((x0.1, x1.1, NN, FL, TL), 0, 0)) := hid (by
                  have h := Q6.out HV0.out HV1.out HN.out HFS1.out (by rw [HT.out])
                  rw [HT.out, HFL.out, HNN.out] at h
                  exact h)
                go_wp2
                go_loopw [17] (fun iv wr => ∃ i : Nat, iv = .int .i64 (i : Int) ∧ i ≤ LN ∧ Hid (∀ (j : Nat) (r : RoomD), l[j]? = some r → j < i → r.1 ≠ x0.1) ∧ Hid (∃ q, wr = wc.drewN q)) (fun iv _ => LN - (RowKit.intOf iv).toNat)
                case atStart => exact ⟨0, rfl, Nat.zero_le _, hid (fun j _ _ h => absurd h (Nat.not_lt_zero _)), hid ⟨0, rfl⟩⟩
                case round =>
                  obtain ⟨i, rfl, hi, hne, HQ⟩ := hrel
                  have hkr : RK w line (some ⟨fb, fo, none⟩) c' d s b m (.string X0) (.string X1) (.int .i64 NN) (.slice A4 FN c4) (.slice A5 TN c5) wr := by
                    obtain ⟨q, hq⟩ := HQ.out
                    rw [hq]
                    exact HK6.out.next (S3.below_drewN (Below.refl _ wc) q)
                  have hstr : S3.StrsIn wr (fun k => w.heap.size + 1 + 1 + 1 + 1 ≤ k ∧ k < wr.heap.size) A4 FL ∧ TimesIn wr (fun k => w.heap.size + 1 + 1 + 1 + 1 ≤ k ∧ k < wr.heap.size) A5 TL := by
                    obtain ⟨q, hq⟩ := HQ.out
                    have hb := S3.below_drewN (Below.refl wc.heap.size wc) q
                    rw [hq]
                    exact ⟨(HIN6.out.kept (fun k hk => hb.block k hk.2)).mono (fun k hk => ⟨hk.1, Nat.lt_of_lt_of_le hk.2 hb.size⟩), (HTM6.out.kept (fun k hk => hb.block k hk.2)).mono (fun k hk => ⟨hk.1, Nat.lt_of_lt_of_le hk.2 hb.size⟩)⟩
                  have HKR := hid hkr
                  have HSTR := hid hstr
                  clear hkr hstr
                  by_cases hlt : i < LN
                  · have hltz : (i : Int) < (LN : Int) := by omega
                    obtain ⟨b7, o7, q7, rfl, hb7, -, u0, -, -, -, -⟩ := (HRI.out.below HKR.out.b).at_ (k := i) (by rw [HLN.out]; exact hlt)
                    obtain ⟨y0, -, -, -, -⟩ := HKR.out.r.cells
                    have hg7 : l[i]? = some (l[i]'(by rw [HLN.out]; exact hlt)) := List.getElem?_eq_getElem _
                    obtain ⟨R7, hR7⟩ : ∃ R7, l[i]'(by rw [HLN.out]; exact hlt) = R7 := ⟨_, rfl⟩
                    rw [hR7] at u0 hg7
                    have HG7 := hid hg7
                    obtain ⟨Y7, hY7⟩ : ∃ Y, ba R7.1 = Y := ⟨_, rfl⟩
                    rw [hY7] at u0
                    have LY7 : Hid (lst Y7 = R7.1) := hid (by rw [← hY7]; rfl)
                    have d7 : decide (LN ≤ i) = false := decide_eq_false (by omega)
                    clear hR7 hg7 hY7
                    by_cases heq : R7.1 = x0.1
                    · have hst := toListEq (T := Y7) (s := X0) (by rw [LY7.out, LX0.out]; exact heq)
                      have HREC : Hid (∀ ps, recM d s b m n (l, ps) (line, [x0, x1, x2, x3, x4]) = (l, ps ++ [(line, 0, 11)])) := hid (fun ps => by
                        rw [recM_add HEN.out]
                        have ha : addC l x0.1 = 11 := if_pos (by unfold codesR; exact List.mem_map.2 ⟨R7, List.mem_of_getElem? HG7.out, heq⟩)
                        dsimp only
                        rw [ha]
                        rfl)
                      have HKQ := hid (fun q => HKR.out.next (S3.below_drewN (Below.refl _ wr) q))
                      clear heq
                      go_wp2
                      go_quiet (fail)
                      clear y0 u0
                      obtain ⟨y0, y1, y2, y3, y4⟩ := HKR.out.r.cells
                      obtain ⟨z0, z1, z2, z3, z4⟩ := HKR.out.z.cells
                      have f0 := HKR.out.z.free 0
                      have f1 := HKR.out.z.free 1
                      have f2 := HKR.out.z.free 2
                      have f3 := HKR.out.z.free 3
                      have f4 := HKR.out.z.free 4
                      go_wp2
                      refine room_end (w := w) rfl rfl rfl rfl ((HKQ.out _).z.set _ _ _ _ _) ⟨⟨(x0.1, x1.1, NN, FL, TL), ⟨A4, c4, A5, c5⟩, -1, 11, by rw [← BX0.out, ← BX1.out, ← HFN.out, ← HTN.out]; rfl, .inl ⟨by decide, rfl, HREC.out⟩⟩, (HKQ.out _).fin _ _ _ _ _⟩
                    · have hst := toListNe (T := Y7) (s := X0) (by rw [LY7.out, LX0.out]; exact heq)
                      have hnx : Hid (∀ (j : Nat) (r : RoomD), l[j]? = some r → j < i + 1 → r.1 ≠ x0.1) := hid (fun j r hj hji => by
                        by_cases e : j < i
                        · exact hne.out j r hj e
                        · obtain rfl : j = i := by omega
                          rw [HG7.out] at hj
                          injection hj with hj
                          rw [← hj]
                          exact heq)
                      clear heq
                      go_wp2
                      go_quiet (fail)
                      go_wp2
                      go_roundw
                      case rel => exact ⟨i + 1, by go_num, by omega, hnx, hid (by obtain ⟨q, hq⟩ := HQ.out; exact ⟨q + nq, by rw [hq, World.drewN_drewN]⟩)⟩
                      case measure => simp [RowKit.intOf]; omega
                  · have hltz : ¬ (i : Int) < (LN : Int) := by omega
                    have hnm : x0.1 ∉ codesR l := fun hm => by
                      unfold codesR at hm
                      obtain ⟨r, hr, e⟩ := List.mem_map.1 hm
                      obtain ⟨j, hj, rfl⟩ := List.mem_iff_getElem.1 hr
                      exact hne.out j _ (List.getElem?_eq_getElem hj) (by rw [HLN.out] at hj; omega) e
                    by_cases h16 : LN = 16
                    · have h16b : ((LN : Int) == 16) = true := by rw [h16]; rfl
                      have HREC : Hid (∀ ps, recM d s b m n (l, ps) (line, [x0, x1, x2, x3, x4]) = (l, ps ++ [(line, 0, 2)])) := hid (fun ps => by
                        rw [recM_add HEN.out]
                        have ha : addC l x0.1 = 2 := by unfold addC; rw [if_neg hnm, HLN.out, if_pos h16]
                        dsimp only
                        rw [ha]
                        rfl)
                      clear hnm h16
                      obtain ⟨y0, y1, y2, y3, y4⟩ := HKR.out.r.cells
                      obtain ⟨z0, z1, z2, z3, z4⟩ := HKR.out.z.cells
                      have f0 := HKR.out.z.free 0
                      have f1 := HKR.out.z.free 1
                      have f2 := HKR.out.z.free 2
                      have f3 := HKR.out.z.free 3
                      have f4 := HKR.out.z.free 4
                      go_wp2
                      refine room_end (w := w) rfl rfl rfl rfl (HKR.out.z.set _ _ _ _ _) ⟨⟨(x0.1, x1.1, NN, FL, TL), ⟨A4, c4, A5, c5⟩, -1, 2, by rw [← BX0.out, ← BX1.out, ← HFN.out, ← HTN.out]; rfl, .inl ⟨by decide, rfl, HREC.out⟩⟩, HKR.out.fin _ _ _ _ _⟩
                    · have h16b : ((LN : Int) == 16) = false := by rw [beq_eq_false_iff_ne]; omega
                      have HREC : Hid (∀ ps, recM d s b m n (l, ps) (line, [x0, x1, x2, x3, x4]) = (l ++ [(x0.1, x1.1, NN, FL, TL)], ps)) := hid (fun ps => by
                        rw [recM_add HEN.out]
                        have ha : addC l x0.1 = 0 := by unfold addC; rw [if_neg hnm, HLN.out, if_neg h16]
                        dsimp only
                        rw [ha]
                        rfl)
                      clear hnm h16
                      obtain ⟨y0, y1, y2, y3, y4⟩ := HKR.out.r.cells
                      obtain ⟨z0, z1, z2, z3, z4⟩ := HKR.out.z.cells
                      have f0 := HKR.out.z.free 0
                      have f1 := HKR.out.z.free 1
                      have f2 := HKR.out.z.free 2
                      have f3 := HKR.out.z.free 3
                      have f4 := HKR.out.z.free 4
                      go_wp2
                      refine room_end (w := w) rfl rfl rfl rfl (HKR.out.z.set _ _ _ _ _) ⟨⟨(x0.1, x1.1, NN, FL, TL), ⟨A4, c4, A5, c5⟩, 0, 0, by rw [← BX0.out, ← BX1.out, ← HFN.out, ← HTN.out]; rfl, .inr (.inr ⟨rfl, HREC.out, ?_⟩)⟩, HKR.out.fin _ _ _ _ _⟩
                      have hel := fun k (hk : k ≠ w.heap.size + 1 + 1) => five_else wr (w.heap.size + 1 + 1) k hk (.string X0) (.string X1) (.int .i64 NN) (.slice A4 FN c4) (.slice A5 TN c5)
                      have hes := five_size wr (w.heap.size + 1 + 1) (.string X0) (.string X1) (.int .i64 NN) (.slice A4 FN c4) (.slice A5 TN c5)
                      have hcc := HC5.out
                      rw [← HTN.out] at hcc
                      have hff := hl4
                      rw [← HFN.out] at hff
                      exact ⟨(HSTR.out.1.kept (fun k hk => hel k (by omega))).mono (fun k hk => ⟨by omega, by rw [hes]; exact hk.2⟩), (HSTR.out.2.kept (fun k hk => hel k (by omega))).mono (fun k hk => ⟨by omega, by rw [hes]; exact hk.2⟩), hff, hc4, hcc.1, hcc.2⟩
              · have hez : (e4 != 0) = true := by simpa using he4
                have HNE := hid he4
                have HEQ : Hid ((entryM d s b m n [x0, x1, x2, x3, x4]).2 = (x4.2.1, e4)) := hid (by
                  have h := Q5.out HV0.out HV1.out HN.out HFS1.out (by rw [HT.out]; exact he4)
                  rw [HT.out] at h
                  exact h)
                clear he4
                obtain ⟨y0, y1, y2, y3, y4⟩ := HK6.out.r.cells
                obtain ⟨z0, z1, z2, z3, z4⟩ := HK6.out.z.cells
                have f0 := HK6.out.z.free 0
                have f1 := HK6.out.z.free 1
                have f2 := HK6.out.z.free 2
                have f3 := HK6.out.z.free 3
                have f4 := HK6.out.z.free 4
                go_wp2
                refine room_end (w := w) rfl rfl rfl rfl (HK6.out.z.set _ _ _ _ _) ⟨⟨(x0.1, x1.1, NN, FL, TL), ⟨A4, c4, A5, c5⟩, (4 : Nat), e4, by rw [← BX0.out, ← BX1.out, ← HFN.out, ← HTN.out]; rfl, .inr (.inl ⟨HNE.out, ⟨4, by simp, by omega, rfl, fun ps => recM_err HEQ.out HNE.out⟩⟩)⟩, HK6.out.fin _ _ _ _ _⟩
          · have hez : (e3 != 0) = true := by simpa using he3
            have HNE := hid he3
            have HEQ : Hid ((entryM d s b m n [x0, x1, x2, x3, x4]).2 = (x3.2.1, e3)) := hid (by
              have h := Q4.out HV0.out HV1.out HN.out (by rw [HFS1.out]; exact he3)
              rw [HFS1.out] at h
              exact h)
            clear he3
            obtain ⟨y0, y1, y2, y3, y4⟩ := HK3.out.r.cells
            obtain ⟨z0, z1, z2, z3, z4⟩ := HK3.out.z.cells
            have f0 := HK3.out.z.free 0
            have f1 := HK3.out.z.free 1
            have f2 := HK3.out.z.free 2
            have f3 := HK3.out.z.free 3
            have f4 := HK3.out.z.free 4
            go_wp2
            refine room_end (w := w) rfl rfl rfl rfl (HK3.out.z.set _ _ _ _ _) ⟨⟨(x0.1, x1.1, NN, [], []), ⟨none, 0, none, 0⟩, (3 : Nat), e3, by rw [← BX0.out, ← BX1.out]; rfl, .inr (.inl ⟨HNE.out, ⟨3, by simp, by omega, rfl, fun ps => recM_err HEQ.out HNE.out⟩⟩)⟩, HK3.out.fin _ _ _ _ _⟩
end Go.Proofs.YteckefolakjafaaGreatDoor

