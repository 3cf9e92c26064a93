/-
  Small functions of coursefile: isLength, readLength, timeAt, isStart, compareStarts. Conditions: the variables hold what their text lays; numbers are ints.
  What holds while a list of times is read part by part; the text of such a list. Conditions: as stated.
  Reading a start: readStart of coursefile, and the closure that calls it. Conditions: the variables hold what their text lays; the text is below 2^62 bytes.
-/
import Derived.Test.YtigdcgklpapfbaaGreatDoorVR17
set_option linter.unusedVariables false
namespace Go.Proofs.YtigdcgklpapfbaaGreatDoor.S10
open Go Go.Proofs Go.RowKit Go.Lib Go.Proofs.YtigdcgklpapfbaaGreatDoor

set_option maxHeartbeats 2000000 in
theorem isLength_any (n d s b m : Int) (w : World) : Calls Tryz.prog 41 #[.int .i64 n, .agg #[.int .i64 d, .int .i64 s, .int .i64 b, .int .i64 m]] w (Says (.bool (decide (1 ≤ n ∧ n ≤ s))) w) := by
  unfold Says
  obtain ⟨g0, g1, g2, g3, _⟩ := Box4.new w d s b m 24
  have HB := hid ((Below.refl w.heap.size w).alloc (Nat.le_refl _) (.cells #[.int .i64 d, .int .i64 s, .int .i64 b, .int .i64 m] 24))
  by_cases h1 : 1 ≤ n
  · by_cases h2 : n ≤ s
    · rw [show decide (1 ≤ n ∧ n ≤ s) = true from decide_eq_true ⟨h1, h2⟩]
      go_enter Tryz.func41, Tryz.ntmps41
      go_wp2
      go_ret
      exact ⟨rfl, HB.out⟩
    · rw [show decide (1 ≤ n ∧ n ≤ s) = false from decide_eq_false (fun h => h2 h.2)]
      go_enter Tryz.func41, Tryz.ntmps41
      go_wp2
      go_ret
      exact ⟨rfl, HB.out⟩
  · rw [show decide (1 ≤ n ∧ n ≤ s) = false from decide_eq_false (fun h => h1 h.1)]
    go_enter Tryz.func41, Tryz.ntmps41
    go_wp2
    go_ret
    exact ⟨rfl, HB.out⟩

theorem lenM_cases (s : Int) (x : Str) : (smallN x = 0 ∧ lenM s x = (0, 4)) ∨ (smallN x ≠ 0 ∧ ((decide (1 ≤ (smallN x : Int) ∧ (smallN x : Int) ≤ s) = false ∧ lenM s x = (0, 3)) ∨ (decide (1 ≤ (smallN x : Int) ∧ (smallN x : Int) ≤ s) = true ∧ lenM s x = ((smallN x : Int), 0)))) := by
  unfold lenM
  by_cases h : smallN x = 0
  · exact .inl ⟨h, if_pos h⟩
  · refine .inr ⟨h, ?_⟩
    rw [if_neg h]
    by_cases h2 : s < (smallN x : Int)
    · exact .inl ⟨decide_eq_false (by omega), if_pos h2⟩
    · exact .inr ⟨decide_eq_true (by omega), if_neg h2⟩
set_option maxHeartbeats 2000000 in
theorem readLength_any (x : ByteArray) (hz : x.size ≤ 4611686018427387904) (d s b m : Int) (w : World) (hE : Env w) : Calls Tryz.prog 85 #[.string x, .agg #[.int .i64 d, .int .i64 s, .int .i64 b, .int .i64 m]] w fun e w' => e = .returned (.tuple #[.int .i64 (lenM s (lst x)).1, .int .i64 (lenM s (lst x)).2]) ∧ Below w.heap.size w w' := by
  have hb0 := (Below.refl w.heap.size w).alloc (Nat.le_refl _) (.cells #[.int .i64 d, .int .i64 s, .int .i64 b, .int .i64 m] 24)
  have cR := hid (read_any x hz (w.alloc (.cells #[.int .i64 d, .int .i64 s, .int .i64 b, .int .i64 m] 24)) (hE.below hb0 hE.size))
  have hG := Box4.new w d s b m 24
  have hcs := lenM_cases s (lst x)
  have cR' := cR.out
  unfold NumOut at cR'
  obtain ⟨R, hR⟩ : ∃ R, lenM s (lst x) = R := ⟨_, rfl⟩
  obtain ⟨N, hN⟩ : ∃ N, smallN (lst x) = N := ⟨_, rfl⟩
  rw [hR, hN] at hcs
  rw [hN] at cR'
  rw [hR]
  have CL := hid (fun w => isLength_any (N : Int) d s b m w)
  have CR := hid cR'
  have HB0 := hid hb0
  have HG := hid hG
  clear cR cR' hR hN hb0 hG hE
  rcases hcs with ⟨h0, rfl⟩ | ⟨h0, hcs⟩
  · have CR' := CR.out
    rw [decide_eq_false (fun k => k h0)] at CR'
    have CR2 := hid CR'
    clear CR CR' h0 CL
    go_enter Tryz.func85, Tryz.ntmps85
    go_wp2_with fail
    generalize w.alloc (.cells #[.int .i64 d, .int .i64 s, .int .i64 b, .int .i64 m] 24) = w1 at HB0 HG CR2 ⊢
    refine CR2.out.mono ?_
    rintro e w2 ⟨rfl, hb⟩
    have HB := hid (HB0.out.trans (hb.mono HB0.out.size))
    clear hb
    go_wp2
    go_ret2
    exact ⟨rfl, HB.out⟩
  · have CR' := CR.out
    rw [decide_eq_true h0] at CR'
    have CR2 := hid CR'
    clear CR CR' h0
    rcases hcs with ⟨h1, rfl⟩ | ⟨h1, rfl⟩ <;>
    · have CL' := CL.out
      rw [h1] at CL'
      have CL2 := hid CL'
      clear CL CL' h1
      go_enter Tryz.func85, Tryz.ntmps85
      go_wp2_with fail
      generalize w.alloc (.cells #[.int .i64 d, .int .i64 s, .int .i64 b, .int .i64 m] 24) = w1 at HB0 HG CR2 ⊢
      have hgl := HG.out.lt
      refine CR2.out.mono ?_
      rintro e w2 ⟨rfl, hb⟩
      obtain ⟨g0, g1, g2, g3, _⟩ := HG.out.next hb hgl
      have HB := hid (HB0.out.trans (hb.mono HB0.out.size))
      clear hb
      go_wp2_with fail
      refine (CL2.out w2).mono ?_
      unfold Says
      rintro e w3 ⟨rfl, hb3⟩
      have HB3 := hid (HB.out.trans (hb3.mono HB.out.size))
      clear hb3
      go_wp2
      go_ret2
      exact ⟨rfl, HB3.out⟩

set_option maxHeartbeats 2000000 in
theorem timeAt_any (y t k l : Int) (w : World) : Calls Tryz.prog 43 #[.agg #[.int .i64 y, .int .i64 t], .int .i64 k, .int .i64 l] w (Says (.agg #[.int .i64 k, .int .i64 y, .int .i64 t, .int .i64 l]) w) := by
  unfold Says
  go_enter Tryz.func43, Tryz.ntmps43
  go_wp2
  go_returns
  exact ⟨rfl, by first | exact (((Below.refl w.heap.size w).alloc (Nat.le_refl _) _).alloc (by simp) _)⟩

/-- What lies while isStart runs: a start, a grid. -/
structure SG (w0 : World) (S G : Nat) (d s b m y t : Int) (W : World) : Prop where
  g : Box4 W G d s b m
  s0 : W.cell? ⟨S, 0, none⟩ = some (.int .i64 y)
  s1 : W.cell? ⟨S, 1, none⟩ = some (.int .i64 t)
  sl : S < W.heap.size
  b : Below w0.heap.size w0 W
theorem SG.next {w0 W W' : World} {S G : Nat} {d s b m y t : Int} (h : SG w0 S G d s b m y t W) (k : Below W.heap.size W W') : SG w0 S G d s b m y t W' :=
  ⟨h.g.next k h.g.lt, (k.cell (p := ⟨S, 0, none⟩) h.sl).trans h.s0, (k.cell (p := ⟨S, 1, none⟩) h.sl).trans h.s1, Nat.lt_of_lt_of_le h.sl k.size, h.b.trans (k.mono h.b.size)⟩
theorem SG.first (w : World) (d s b m y t : Int) (T T' : TypeId) : SG w w.heap.size (w.heap.size + 1) d s b m y t ((w.alloc (.cells #[.int .i64 y, .int .i64 t] T)).alloc (.cells #[.int .i64 d, .int .i64 s, .int .i64 b, .int .i64 m] T')) := by
  have e0 := heap_alloc_new w (.cells #[.int .i64 y, .int .i64 t] T)
  have hb1 := (Below.refl w.heap.size w).alloc (Nat.le_refl _) (.cells #[.int .i64 y, .int .i64 t] T)
  have hs : (w.alloc (.cells #[.int .i64 y, .int .i64 t] T)).heap.size = w.heap.size + 1 := by simp
  generalize w.alloc (.cells #[.int .i64 y, .int .i64 t] T) = w1 at e0 hb1 hs ⊢
  have hb2 := (Below.refl w1.heap.size w1).alloc (Nat.le_refl _) (.cells #[.int .i64 d, .int .i64 s, .int .i64 b, .int .i64 m] T')
  have hG := Box4.new w1 d s b m T'
  rw [hs] at hG
  have e1 := (hb2.block w.heap.size (by omega)).trans e0
  refine ⟨hG, by rw [Lib.cell_of_heap e1]; rfl, by rw [Lib.cell_of_heap e1]; rfl, by simp; omega, hb1.trans (hb2.mono (by omega))⟩
set_option maxHeartbeats 4000000 in
set_option maxRecDepth 100000 in
theorem isStart_any (y t l d s b m : Int) (ht : t ≤ 9223372036854775807) (w : World) : Calls Tryz.prog 114 #[.agg #[.int .i64 y, .int .i64 t], .int .i64 l, .agg #[.int .i64 d, .int .i64 s, .int .i64 b, .int .i64 m]] w (Says (.bool (decide (fitsM d s b m 1 1 y t l = 0))) w) := by
  have cT := fun w => timeAt_any y t 1 l w
  have cF := fun w => fits_any d s b m 1 1 y t l ht w
  unfold Says at cT cF ⊢
  have hk := SG.first w d s b m y t 74 24
  obtain ⟨R, hR⟩ : ∃ R, fitsM d s b m 1 1 y t l = R := ⟨_, rfl⟩
  rw [hR] at cF ⊢
  have hre : (R == 0) = decide (R = 0) := by rw [Bool.eq_iff_iff]; simp
  obtain ⟨D, hD⟩ : ∃ D, decide (R = 0) = D := ⟨_, rfl⟩
  rw [hD] at hre ⊢
  have HK := hid hk
  have CT := hid cT
  have CF := hid cF
  clear cT cF hk hR hD
  go_enter Tryz.func114, Tryz.ntmps114
  go_wp2
  generalize (w.alloc (.cells #[.int .i64 y, .int .i64 t] 74)).alloc (.cells #[.int .i64 d, .int .i64 s, .int .i64 b, .int .i64 m] 24) = wx at HK ⊢
  have hk' := HK.out
  obtain ⟨g0, g1, g2, g3, _⟩ := HK.out.g
  have s0 := HK.out.s0
  have s1 := HK.out.s1
  go_region_held3 (fun w' => w'.cell? ⟨w.heap.size + 1, 0, none⟩ = some (.int .i64 d) ∧ w'.cell? ⟨w.heap.size + 1, 1, none⟩ = some (.int .i64 s) ∧ w'.cell? ⟨w.heap.size + 1, 2, none⟩ = some (.int .i64 b) ∧ w'.cell? ⟨w.heap.size + 1, 3, none⟩ = some (.int .i64 m) ∧ w'.cell? ⟨w.heap.size, 0, none⟩ = some (.int .i64 y) ∧ w'.cell? ⟨w.heap.size, 1, none⟩ = some (.int .i64 t))
    (first | with_reducible exact ⟨hk'.g.c0, hk'.g.c1, hk'.g.c2, hk'.g.c3, hk'.s0, hk'.s1⟩ | with_reducible exact ⟨(hk'.next (Below.refl _ _).drew).g.c0, (hk'.next (Below.refl _ _).drew).g.c1, (hk'.next (Below.refl _ _).drew).g.c2, (hk'.next (Below.refl _ _).drew).g.c3, (hk'.next (Below.refl _ _).drew).s0, (hk'.next (Below.refl _ _).drew).s1⟩)
    (first
      | (go_at_call 43; (with_reducible refine (CT.out _).mono ?_); rintro e wq ⟨rfl, hbq⟩; have hk' := (hk'.next (Below.refl _ _).drew).next hbq)
      | (go_at_call 147; (with_reducible refine (CF.out _).mono ?_); rintro e wq ⟨rfl, hbq⟩; have hk' := hk'.next hbq))
  all_goals
    go_wp2
    go_ret
    exact ⟨rfl, hk'.b⟩
end Go.Proofs.YtigdcgklpapfbaaGreatDoor.S10

set_option linter.unusedVariables false
namespace Go.Proofs.YtigdcgklpapfbaaGreatDoor
open Go Go.Proofs Go.RowKit Go.Lib

theorem readT_start (d s : Int) (n : Nat) (x : Str) (k : Nat) : (readT d s n x k).1.2.2.1 ≤ 9223372036854775807 := by
  have h : fromN (wSlots x) < 100 := smallN_lt _
  unfold readT
  split
  · split
    · show (fromN (wSlots x) : Int) - 1 ≤ _
      omega
    · show (0 : Int) ≤ _
      omega
  · show (0 : Int) ≤ _
    omega
theorem timeM_start (d s b m n : Int) (x : Str) : (timeM d s b m n x).1.2.2.1 ≤ 9223372036854775807 := by
  have z : (0 : Int) ≤ 9223372036854775807 := by omega
  unfold timeM
  split
  · unfold bodyT
    split
    · split
      · exact readT_start _ _ _ _ _
      · exact z
    · exact z
  · exact z
section
variable {N : Nat} {w : World} {d s b m n : Int}
theorem row_kindT {w : World} {B e z k : Nat} {v : Value} {xs : List Value} (h : w.ownsRow B e z v k xs) (g : Nat) (hg : v.ownBlock = some g) : ∃ c, w.heap[g]? = some (.cells c e (0, 0)) := by
  rcases h.2 with ⟨rfl, _⟩ | ⟨g', cap, cur, rfl, _, hh, _⟩
  · simp [Value.ownBlock] at hg
  · simp only [Value.ownBlock, Option.some.injEq] at hg
    subst hg
    exact ⟨cur, hh⟩
end
end Go.Proofs.YtigdcgklpapfbaaGreatDoor

set_option linter.unusedVariables false
namespace Go.Proofs.YtigdcgklpapfbaaGreatDoor.S10
open Go Go.Proofs Go.RowKit Go.Lib Go.Proofs.YtigdcgklpapfbaaGreatDoor

theorem results_ct2 {fn : Func} {p u : Tmp} {A : TypeId} (h : fn.results = #[.cell p A, .tmp u]) (tmps : Array Value) (P : Program) (w : World) (a : Addr) (va vc : Value)
    (ha : tmps.getD p undef = .pointer (some a)) (hc : tmps.getD u undef = vc)
    (hla : (loadVar A a).run P w = .ok va w) : (results fn tmps).run P w = .ok (.tuple #[va, vc]) w := by
  rw [Array.getD_eq_getD_getElem?] at ha hc
  simp only [results, h]
  simp [Result.andThen, ha, hc, hla, asAddr]
theorem loadStart {w : World} {k : Nat} {v0 v1 : Value} (h0 : w.cell? ⟨k, 0, none⟩ = some v0) (h1 : w.cell? ⟨k, 1, none⟩ = some v1) : (loadVar 74 ⟨k, 0, none⟩).run Tryz.prog w = .ok (.agg #[v0, v1]) w := by
  simp [loadVar, go_sem, h0, h1]
/-- A block of two cells: a start. -/
structure BoxS (w : World) (B : Nat) (v0 v1 : Value) : Prop where
  h : w.heap[B]? = some (.cells #[v0, v1] 74 (0, 0))
theorem BoxS.lt {w : World} {B : Nat} {v0 v1 : Value} (h : BoxS w B v0 v1) : B < w.heap.size := (Array.getElem?_eq_some_iff.1 h.h).1
theorem BoxS.next {w w' : World} {B : Nat} {v0 v1 : Value} (h : BoxS w B v0 v1) (hb : Below w.heap.size w w') : BoxS w' B v0 v1 := ⟨(hb.block B h.lt).trans h.h⟩
theorem BoxS.cells {w : World} {B : Nat} {v0 v1 : Value} (h : BoxS w B v0 v1) : w.cell? ⟨B, 0, none⟩ = some v0 ∧ w.cell? ⟨B, 1, none⟩ = some v1 := by
  refine ⟨?_, ?_⟩ <;> (rw [Lib.cell_of_heap h.h]; rfl)
theorem BoxS.free {w : World} {B : Nat} {v0 v1 : Value} (h : BoxS w B v0 v1) (j : Nat) : w.frozen? ⟨B, j, none⟩ = false := by simp [World.frozen?, h.h]
theorem BoxS.set {w : World} {B : Nat} {v0 v1 : Value} (h : BoxS w B v0 v1) (u0 u1 : Value) : BoxS ((w.setCell ⟨B, 0, none⟩ u0).setCell ⟨B, 1, none⟩ u1) B u0 u1 := by
  have h1 := heap_setCell_same w B 0 _ _ u0 h.h
  have h2 := heap_setCell_same _ B 1 _ _ u1 h1
  refine ⟨?_⟩
  rw [h2]
  rfl
theorem BoxS.new (w : World) (v0 v1 : Value) : BoxS (w.alloc (.cells #[v0, v1] 74)) w.heap.size v0 v1 := ⟨heap_alloc_new w _⟩
theorem setS_below {w W : World} {N B : Nat} (hb : Below N w W) (hN : N ≤ w.heap.size) (hB : N ≤ B) (u0 u1 : Value) : Below N w ((W.setCell ⟨B, 0, none⟩ u0).setCell ⟨B, 1, none⟩ u1) := by
  have g : ∀ (w : World) (o : Nat) (v : Value), w.grownBy (w.setCell ⟨B, o, none⟩ v) (some B) := fun w o v => ⟨by simp [World.setCell], by simp [World.setCell], by simp [World.setCell], by simp [World.setCell], fun k _ hk => Below.heap_setCell w ⟨B, o, none⟩ v k (fun e => hk (by rw [show k = B from e]))⟩
  have h1 := hb.grown (g W 0 u0) (by have := hb.size; omega) (fun k e => by injection e; omega)
  exact h1.grown (g _ 1 u1) (by have := h1.size; omega) (fun k e => by injection e; omega)
/-- What lies while readStart runs: the grid, the result. -/
structure KS (w0 : World) (d s b m : Int) (W : World) : Prop where
  g : Box4 W w0.heap.size d s b m
  r : BoxS W (w0.heap.size + 1) (.int .i64 0) (.int .i64 0)
  b : Below w0.heap.size w0 W
theorem KS.next {w0 W W' : World} {d s b m : Int} (h : KS w0 d s b m W) (k : Below W.heap.size W W') : KS w0 d s b m W' := ⟨h.g.next k h.g.lt, h.r.next k, h.b.trans (k.mono h.b.size)⟩
theorem KS.first (w : World) (d s b m : Int) : KS w d s b m ((w.alloc (.cells #[.int .i64 d, .int .i64 s, .int .i64 b, .int .i64 m] 24)).alloc (.cells #[.int .i64 0, .int .i64 0] 74)) := by
  have hb1 := (Below.refl w.heap.size w).alloc (Nat.le_refl _) (.cells #[.int .i64 d, .int .i64 s, .int .i64 b, .int .i64 m] 24)
  have hG := Box4.new w d s b m 24
  have hs : (w.alloc (.cells #[.int .i64 d, .int .i64 s, .int .i64 b, .int .i64 m] 24)).heap.size = w.heap.size + 1 := by simp
  generalize w.alloc (.cells #[.int .i64 d, .int .i64 s, .int .i64 b, .int .i64 m] 24) = w1 at hb1 hG hs ⊢
  have hb2 := (Below.refl w1.heap.size w1).alloc (Nat.le_refl _) (.cells #[.int .i64 0, .int .i64 0] 74)
  have hS := BoxS.new w1 (.int .i64 0) (.int .i64 0)
  rw [hs] at hS
  exact ⟨hG.next hb2 hG.lt, hS, hb1.trans (hb2.mono (by omega))⟩
/-- What reading a start leaves behind. -/
def StartOut (r : StartD × Int) (w : World) (e : Ending) (w' : World) : Prop := e = .returned (.tuple #[.agg #[.int .i64 r.1.1, .int .i64 r.1.2], .int .i64 r.2]) ∧ Below w.heap.size w w'
theorem start_end {w W : World} {a : Act} {y t c : Int} {K : Nat} {r : StartD × Int} (hp : a.tmps.getD 6 undef = .pointer (some ⟨K, 0, none⟩)) (he : a.tmps.getD 7 undef = .int .i64 c) (hd : a.defers = [])
    (hx : BoxS W K (.int .i64 y) (.int .i64 t)) (hb : Below w.heap.size w W) (hr : r = ((y, t), c)) : bodyPost Tryz.prog Tryz.f125 (StartOut r w) Exit.ret a W := by
  subst hr
  obtain ⟨h0, h1⟩ := hx.cells
  exact bodyPost_ret (v := .tuple #[.agg #[.int .i64 y, .int .i64 t], .int .i64 c]) (results_ct2 rfl _ _ _ ⟨K, 0, none⟩ _ _ hp he (loadStart h0 h1)) hd ⟨rfl, hb⟩
theorem startM_cases (d s b m len : Int) (p : Str) : (smallN (aft 32 p) = 0 ∧ startM d s b m len p = ((0, 0), 4)) ∨ (smallN (aft 32 p) ≠ 0 ∧
    (((timeM d s b m 1 p).2 ≠ 0 ∧ startM d s b m len p = ((0, 0), (timeM d s b m 1 p).2)) ∨ ((timeM d s b m 1 p).2 = 0 ∧
      ((fitsM d s b m 1 1 (timeM d s b m 1 p).1.2.1 (timeM d s b m 1 p).1.2.2.1 len ≠ 0 ∧ startM d s b m len p = ((0, 0), 14)) ∨
       (fitsM d s b m 1 1 (timeM d s b m 1 p).1.2.1 (timeM d s b m 1 p).1.2.2.1 len = 0 ∧ startM d s b m len p = (((timeM d s b m 1 p).1.2.1, (timeM d s b m 1 p).1.2.2.1), 0)))))) := by
  unfold startM
  by_cases h1 : smallN (aft 32 p) = 0
  · exact .inl ⟨h1, if_pos h1⟩
  · refine .inr ⟨h1, ?_⟩
    rw [if_neg h1]
    by_cases h2 : (timeM d s b m 1 p).2 = 0
    · refine .inr ⟨h2, ?_⟩
      rw [if_neg (by simpa using h2)]
      by_cases h3 : fitsM d s b m 1 1 (timeM d s b m 1 p).1.2.1 (timeM d s b m 1 p).1.2.2.1 len = 0
      · exact .inr ⟨h3, if_neg (by simpa using h3)⟩
      · exact .inl ⟨h3, if_pos h3⟩
    · exact .inl ⟨h2, if_pos h2⟩
set_option maxHeartbeats 8000000 in
set_option maxRecDepth 100000 in
theorem readStart_any (d s b m len : Int) (x : ByteArray) (hz : x.size ≤ 4611686018427387904) (w : World) (hE : Env7 w) :
    Calls Tryz.prog 125 #[.string x, .int .i64 len, .agg #[.int .i64 d, .int .i64 s, .int .i64 b, .int .i64 m]] w (StartOut (startM d s b m len (lst x)) w) := by
  have cC := fun w => cut_any x 32 hz w
  have cR := fun w h => read_any (ba (aft 32 (lst x))) (aft_small 32 hz) w h
  have cP := fun w h h2 => tparse_any d s b m 1 x hz w h h2
  have hst := timeM_start d s b m 1 (lst x)
  have hcs := startM_cases d s b m len (lst x)
  unfold CutOut at cC
  unfold NumOut at cR
  unfold TimeOut at cP
  rw [lst_ba] at cR
  obtain ⟨O, hO⟩ : ∃ O, startM d s b m len (lst x) = O := ⟨_, rfl⟩
  rw [hO] at hcs ⊢
  obtain ⟨⟨⟨t0, t1, t2, t3⟩, te⟩, hT⟩ : ∃ R, timeM d s b m 1 (lst x) = R := ⟨_, rfl⟩
  rw [hT] at hcs cP hst
  obtain ⟨N, hN⟩ : ∃ N, smallN (aft 32 (lst x)) = N := ⟨_, rfl⟩
  rw [hN] at hcs cR
  obtain ⟨X1, hX1⟩ : ∃ X, ba (bef 32 (lst x)) = X := ⟨_, rfl⟩
  obtain ⟨X2, hX2⟩ : ∃ X, ba (aft 32 (lst x)) = X := ⟨_, rfl⟩
  obtain ⟨X3, hX3⟩ : ∃ X, has 32 (lst x) = X := ⟨_, rfl⟩
  rw [hX1, hX2, hX3] at cC
  rw [hX2] at cR
  dsimp only at hcs cP hst
  have cI := fun w => isStart_any t1 t2 len d s b m hst w
  unfold Says at cI
  obtain ⟨F, hF⟩ : ∃ F, fitsM d s b m 1 1 t1 t2 len = F := ⟨_, rfl⟩
  rw [hF] at hcs cI
  have hk := KS.first w d s b m
  have HK := hid hk
  have HE := hid (fun (w' : World) (hb : Below w.heap.size w w') => hE.below hb (Nat.le_refl _))
  have CC := hid cC
  have CR := hid cR
  have CP := hid cP
  have CI := hid cI
  clear cC cR cP cI hO hT hN hX1 hX2 hX3 hF hk hE hst hz
  rcases hcs with ⟨h1, rfl⟩ | ⟨h1, hcs⟩
  · have CR' := CR.out
    rw [decide_eq_false (fun k => k h1)] at CR'
    have CR2 := hid CR'
    clear CR CR' h1 CP CI
    go_enter Tryz.func125, Tryz.ntmps125
    go_wp2_with fail
    generalize (w.alloc (.cells #[.int .i64 d, .int .i64 s, .int .i64 b, .int .i64 m] 24)).alloc (.cells #[.int .i64 0, .int .i64 0] 74) = w1 at HK ⊢
    refine (CC.out w1).mono ?_
    rintro e w2 ⟨rfl, q2, rfl⟩
    have HK2 := hid (HK.out.next (S3.below_drewN (Below.refl _ _) q2))
    go_wp2_with fail
    refine (CR2.out _ (HE.out _ HK2.out.b).e).mono ?_
    rintro e w3 ⟨rfl, hb⟩
    have hk3 := HK2.out.next hb
    have f0 := hk3.r.free 0
    have f1 := hk3.r.free 1
    obtain ⟨c0, c1⟩ := hk3.r.cells
    have HK3 := hid hk3
    clear hb hk3
    go_wp2
    refine start_end (K := w.heap.size + 1) ?_ ?_ ?_ (HK3.out.r.set _ _) (setS_below HK3.out.b (Nat.le_refl _) (by omega) _ _) rfl
    all_goals rfl
  · have CR' := CR.out
    rw [decide_eq_true h1] at CR'
    have CR2 := hid CR'
    clear CR CR' h1
    go_enter Tryz.func125, Tryz.ntmps125
    go_wp2_with fail
    generalize (w.alloc (.cells #[.int .i64 d, .int .i64 s, .int .i64 b, .int .i64 m] 24)).alloc (.cells #[.int .i64 0, .int .i64 0] 74) = w1 at HK ⊢
    refine (CC.out w1).mono ?_
    rintro e w2 ⟨rfl, q2, rfl⟩
    have HK2 := hid (HK.out.next (S3.below_drewN (Below.refl _ _) q2))
    go_wp2_with fail
    refine (CR2.out _ (HE.out _ HK2.out.b).e).mono ?_
    rintro e w3 ⟨rfl, hb⟩
    have hk3 := HK2.out.next hb
    obtain ⟨g0, g1, g2, g3, gl⟩ := hk3.g
    have HK3 := hid hk3
    clear hb hk3
    go_wp2_with fail
    refine (CP.out _ (HE.out _ HK3.out.b).e (HE.out _ HK3.out.b).d).mono ?_
    rintro e w4 ⟨rfl, hb⟩
    have hk4 := HK3.out.next hb
    have HK4 := hid hk4
    clear hb hk4 g0 g1 g2 g3 gl
    have hb5 := (Below.refl w4.heap.size w4).alloc (Nat.le_refl _) (.cells #[.int .i64 t0, .int .i64 t1, .int .i64 t2, .int .i64 t3] 66)
    have hT := Box4.new w4 t0 t1 t2 t3 66
    have hk5 := HK4.out.next hb5
    obtain ⟨y0, y1, y2, y3, yl⟩ := hT
    have HK5 := hid hk5
    have HB5 := hid hb5
    clear hk5 hb5
    have hsz : (w4.alloc (.cells #[.int .i64 t0, .int .i64 t1, .int .i64 t2, .int .i64 t3] 66)).heap.size = w4.heap.size + 1 := by simp
    have hk6 := HK5.out.next ((Below.refl _ _).alloc (Nat.le_refl _) (.cells #[.int .i64 t1, .int .i64 t2] 74))
    have hS6 := BoxS.new (w4.alloc (.cells #[.int .i64 t0, .int .i64 t1, .int .i64 t2, .int .i64 t3] 66)) (.int .i64 t1) (.int .i64 t2)
    rw [hsz] at hS6
    obtain ⟨g0, g1, g2, g3, gl⟩ := hk6.g
    obtain ⟨z0, z1⟩ := hS6.cells
    have HK6 := hid hk6
    have HS6 := hid hS6
    rcases hcs with ⟨h2, rfl⟩ | ⟨h2, hcs⟩
    · have e1 : (te != 0) = true := by simpa using h2
      have e2 : (te == 0) = false := by simpa using h2
      have f0 := hk6.r.free 0
      have f1 := hk6.r.free 1
      obtain ⟨c0, c1⟩ := hk6.r.cells
      clear hk6 hS6 hsz h2 g0 g1 g2 g3 gl z0 z1 CI
      go_wp2
      refine start_end (K := w.heap.size + 1) ?_ ?_ ?_ (HK6.out.r.set _ _) (setS_below HK6.out.b (Nat.le_refl _) (by omega) _ _) rfl
      all_goals rfl
    · subst h2
      rcases hcs with ⟨h3, rfl⟩ | ⟨h3, rfl⟩
      · have CI' := CI.out
        rw [decide_eq_false h3] at CI'
        have CI2 := hid CI'
        clear CI CI' h3 hk6 hS6 hsz
        go_wp2_with fail
        generalize (w4.alloc (.cells #[.int .i64 t0, .int .i64 t1, .int .i64 t2, .int .i64 t3] 66)).alloc (.cells #[.int .i64 t1, .int .i64 t2] 74) = w6 at HK6 HS6 g0 g1 g2 g3 gl z0 z1 ⊢
        refine (CI2.out w6).mono ?_
        rintro e w7 ⟨rfl, hb⟩
        have hk7 := HK6.out.next hb
        have HK7 := hid hk7
        have f0 := hk7.r.free 0
        have f1 := hk7.r.free 1
        obtain ⟨c0, c1⟩ := hk7.r.cells
        clear hb hk7 g0 g1 g2 g3 gl z0 z1
        go_wp2
        refine start_end (K := w.heap.size + 1) ?_ ?_ ?_ (HK7.out.r.set _ _) (setS_below HK7.out.b (Nat.le_refl _) (by omega) _ _) rfl
        all_goals rfl
      · have CI' := CI.out
        rw [decide_eq_true h3] at CI'
        have CI2 := hid CI'
        clear CI CI' h3 hk6 hS6 hsz
        go_wp2_with fail
        generalize (w4.alloc (.cells #[.int .i64 t0, .int .i64 t1, .int .i64 t2, .int .i64 t3] 66)).alloc (.cells #[.int .i64 t1, .int .i64 t2] 74) = w6 at HK6 HS6 g0 g1 g2 g3 gl z0 z1 ⊢
        refine (CI2.out w6).mono ?_
        rintro e w7 ⟨rfl, hb⟩
        have hk7 := HK6.out.next hb
        have HK7 := hid hk7
        have f0 := hk7.r.free 0
        have f1 := hk7.r.free 1
        obtain ⟨c0, c1⟩ := hk7.r.cells
        obtain ⟨z0', z1'⟩ := (HS6.out.next hb).cells
        clear hb hk7 g0 g1 g2 g3 gl z0 z1
        go_wp2
        refine start_end (K := w.heap.size + 1) ?_ ?_ ?_ (HK7.out.r.set _ _) (setS_below HK7.out.b (Nat.le_refl _) (by omega) _ _) rfl
        all_goals rfl
set_option maxHeartbeats 4000000 in
set_option maxRecDepth 100000 in
theorem readOne_any (K G : Nat) (d s b m len : Int) (y : ByteArray) (hy : y.size ≤ 4611686018427387904) (W : World) (hK : W.cell? ⟨K, 0, none⟩ = some (.int .i64 len)) (hG : Box4 W G d s b m) (hKl : K < W.heap.size) (hE : Env7 W) :
    Calls Tryz.prog 124 (#[.string y] ++ #[.pointer (some ⟨K, 0, none⟩), .pointer (some ⟨G, 0, none⟩)]) W fun e w' => (∃ r, r = startM d s b m len (lst y) ∧ e = .returned (.tuple #[.agg #[.int .i64 r.1.1, .int .i64 r.1.2], .int .i64 r.2])) ∧ Below W.heap.size W w' := by
  have hb0 := (Below.refl W.heap.size W).alloc (Nat.le_refl _) (.cells #[.int .i64 0, .int .i64 0] 74)
  have cS := readStart_any d s b m len y hy (W.alloc (.cells #[.int .i64 0, .int .i64 0] 74)) (hE.below hb0 (Nat.le_refl _))
  have hS0 := BoxS.new W (.int .i64 0) (.int .i64 0)
  obtain ⟨g0, g1, g2, g3, gl⟩ := hG.next hb0 hG.lt
  have k0 : (W.alloc (.cells #[.int .i64 0, .int .i64 0] 74)).cell? ⟨K, 0, none⟩ = some (.int .i64 len) := (hb0.cell (p := ⟨K, 0, none⟩) hKl).trans hK
  unfold StartOut at cS
  obtain ⟨⟨⟨u, v⟩, c⟩, hR⟩ : ∃ R, startM d s b m len (lst y) = R := ⟨_, rfl⟩
  rw [hR] at cS ⊢
  dsimp only at cS ⊢
  have CS := hid cS
  have HB0 := hid hb0
  have HS0 := hid hS0
  clear cS hR hE hb0 hS0 hG hK hy hKl
  simp only [List.append_toArray, List.cons_append, List.nil_append, exists_eq_left]
  go_enter Tryz.func124, Tryz.ntmps124
  go_wp2_with fail
  generalize W.alloc (.cells #[.int .i64 0, .int .i64 0] 74) = w1 at CS HB0 HS0 ⊢
  refine CS.out.mono ?_
  rintro e w2 ⟨rfl, hb⟩
  have hs2 := HS0.out.next hb
  have HS2 := hid hs2
  have HB2 := hid (HB0.out.trans (hb.mono HB0.out.size))
  have f0 := hs2.free 0
  have f1 := hs2.free 1
  obtain ⟨c0, c1⟩ := hs2.cells
  clear hb hs2 g0 g1 g2 g3 gl k0
  go_wp2
  obtain ⟨r0, r1⟩ := (HS2.out.set (.int .i64 u) (.int .i64 v)).cells
  refine bodyPost_ret (v := .tuple #[.agg #[.int .i64 u, .int .i64 v], .int .i64 c]) (results_ct2 rfl _ _ _ ⟨W.heap.size, 0, none⟩ _ _ rfl rfl (loadStart r0 r1)) rfl ⟨rfl, setS_below HB2.out (Nat.le_refl _) (Nat.le_refl _) _ _⟩
end Go.Proofs.YtigdcgklpapfbaaGreatDoor.S10
