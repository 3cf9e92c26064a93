/-
  The reference's field of a record, as a function of the place. Conditions: the reader lies in memory; its text has at most 65536 bytes; neither the delimiter nor the quotation mark is a line feed.
-/
import Derived.Test.YtcpkefjijinhiaaDoorRes
import Derived.Handy
import Derived.Deep.RegionHeld3
import Derived.StillTailTactics
set_option linter.unusedVariables false
namespace Go.Proofs.YtcpkefjijinhiaaDoor
open Go Go.Proofs Go.RowKit Go.Lib

abbrev lst (S : ByteArray) : Str := S.data.toList
/-- A reader whose line and beginning of line are those of its place. -/
def RdrAt (w : World) (g : Nat) (S : ByteArray) (a : Nat) : Prop := ReaderAt w g S a (lineOf (lst S) a) (begOf (lst S) a)
theorem RdrAt.step {w : World} {g a : Nat} {S : ByteArray} (h : RdrAt w g S a) (ha : a < S.size) (hne : (S[a]'ha).toNat ≠ 10) : RdrAt (w.setCell ⟨g, 1, none⟩ (.int .i64 ((a : Int) + 1))) g S (a + 1) := by
  have ha' : a < (lst S).length := by rw [← Lib.size_eq]; exact ha
  have hx : (lst S)[a] ≠ 10 := fun e => hne (by rw [← show (lst S)[a] = S[a]'ha from rfl, e]; rfl)
  unfold RdrAt
  rw [lineOf_step _ _ ha', begOf_step _ _ ha', if_neg hx, if_neg hx]
  exact ReaderAt.step h ha

theorem RdrAt.alloc {w : World} {g a : Nat} {S : ByteArray} (h : RdrAt w g S a) (o : Obj) : RdrAt (w.alloc o) g S a := by
  have hlt := (Array.getElem?_eq_some_iff.1 h.cells).1
  exact ReaderAt.rolled h (Below.heap_alloc w o g hlt)
theorem RdrAt.drawn {w : World} {g a : Nat} {S : ByteArray} (h : RdrAt w g S a) (n : Nat) : RdrAt (w.drewN n) g S a := ReaderAt.rolled h (drewN_heap w n g)
def fldV (f : Fld) : Value := .agg #[strV f.text, .int .i64 f.col, .bool f.quoted]
def probV (p : Prob) : Value := .agg #[.int .i64 0, .int .i64 p.line, .int .i64 p.col, .int .i64 p.code]
def FieldOut (g : Nat) (S : ByteArray) (w : World) (r : FRes) (e : Ending) (w' : World) : Prop :=
  Played w.heap.size g w w' ∧ match r with
  | .ok f x => e = .returned (.tuple #[fldV f, .agg #[.int .i64 0, .int .i64 0, .int .i64 0, .int .i64 0], .bool true]) ∧ RdrAt w' g S x
  | .bad p x => (∃ t c q, e = .returned (.tuple #[.agg #[.string t, .int .i64 c, .bool q], probV p, .bool false])) ∧ ∃ a', RdrAt w' g S a' ∧ nxt (lst S) a' = x

/-- The blocks that a field is read into. -/
structure FLoc (w : World) (F g k0 k1 k2 k3 : Nat) (D Q : UInt8) (t : ByteArray) (c : Int) (q : Bool) : Prop where
  b0 : w.heap[k0]? = some (.cells #[.int .u8 D.toNat, .int .u8 Q.toNat] 23 (0, 0))
  b1 : w.heap[k1]? = some (.cells #[.string ⟨#[]⟩, .int .i64 0, .bool false] 50 (0, 0))
  b2 : w.heap[k2]? = some (.cells #[.int .i64 0, .int .i64 0, .int .i64 0, .int .i64 0] 77 (0, 0))
  b3 : w.heap[k3]? = some (.cells #[.string t, .int .i64 c, .bool q] 50 (0, 0))
  lt : g < k0 ∧ k0 < k1 ∧ k1 < k2 ∧ k2 < k3 ∧ k3 < F
theorem FLoc.played {w w' : World} {F F' g k0 k1 k2 k3 : Nat} {D Q : UInt8} {t : ByteArray} {c : Int} {q : Bool} (h : FLoc w F g k0 k1 k2 k3 D Q t c q) (hp : Played F' g w w') (hF : F ≤ F') : FLoc w' F g k0 k1 k2 k3 D Q t c q := by
  have hl := h.lt
  exact ⟨(hp.block _ (by omega) (by omega)).trans h.b0, (hp.block _ (by omega) (by omega)).trans h.b1, (hp.block _ (by omega) (by omega)).trans h.b2, (hp.block _ (by omega) (by omega)).trans h.b3, h.lt⟩
theorem FLoc.text {w : World} {F g k0 k1 k2 k3 : Nat} {D Q : UInt8} {t : ByteArray} {c : Int} {q : Bool} (h : FLoc w F g k0 k1 k2 k3 D Q t c q) (s : ByteArray) : FLoc (w.setCell ⟨k3, 0, none⟩ (.string s)) F g k0 k1 k2 k3 D Q s c q := by
  have hl := h.lt
  have hb := (Rolled.set k3 0 w (.string s)).block
  exact ⟨(hb _ (by omega)).trans h.b0, (hb _ (by omega)).trans h.b1, (hb _ (by omega)).trans h.b2, by rw [heap_setCell_same w k3 0 _ _ _ h.b3]; rfl, h.lt⟩
theorem FLoc.mark {w : World} {F g k0 k1 k2 k3 : Nat} {D Q : UInt8} {t : ByteArray} {c : Int} {q : Bool} (h : FLoc w F g k0 k1 k2 k3 D Q t c q) (b : Bool) : FLoc (w.setCell ⟨k3, 2, none⟩ (.bool b)) F g k0 k1 k2 k3 D Q t c b := by
  have hl := h.lt
  have hb := (Rolled.set k3 2 w (.bool b)).block
  exact ⟨(hb _ (by omega)).trans h.b0, (hb _ (by omega)).trans h.b1, (hb _ (by omega)).trans h.b2, by rw [heap_setCell_same w k3 2 _ _ _ h.b3]; rfl, h.lt⟩
theorem cell_at {w : World} {k : Nat} {cs : Array Value} {T : TypeId} {fz : Nat × Nat} (h : w.heap[k]? = some (.cells cs T fz)) (j : Nat) : w.cell? ⟨k, j, none⟩ = cs[j]? := by rw [Lib.cell_of_heap h]
theorem free_at {w : World} {k : Nat} {cs : Array Value} {T : TypeId} (h : w.heap[k]? = some (.cells cs T (0, 0))) (j : Nat) : w.frozen? ⟨k, j, none⟩ = false := by simp [World.frozen?, h]
theorem FLoc.facts {w : World} {F g k0 k1 k2 k3 : Nat} {D Q : UInt8} {t : ByteArray} {c : Int} {q : Bool} (h : FLoc w F g k0 k1 k2 k3 D Q t c q) :
    (w.cell? ⟨k1, 0, none⟩ = some (.string ⟨#[]⟩) ∧ w.cell? ⟨k1, 1, none⟩ = some (.int .i64 0) ∧ w.cell? ⟨k1, 2, none⟩ = some (.bool false) ∧
      w.frozen? ⟨k1, 0, none⟩ = false ∧ w.frozen? ⟨k1, 1, none⟩ = false ∧ w.frozen? ⟨k1, 2, none⟩ = false) ∧
    (w.cell? ⟨k2, 0, none⟩ = some (.int .i64 0) ∧ w.cell? ⟨k2, 1, none⟩ = some (.int .i64 0) ∧ w.cell? ⟨k2, 2, none⟩ = some (.int .i64 0) ∧ w.cell? ⟨k2, 3, none⟩ = some (.int .i64 0) ∧
      w.frozen? ⟨k2, 0, none⟩ = false ∧ w.frozen? ⟨k2, 1, none⟩ = false ∧ w.frozen? ⟨k2, 2, none⟩ = false ∧ w.frozen? ⟨k2, 3, none⟩ = false) ∧
    (w.cell? ⟨k3, 0, none⟩ = some (.string t) ∧ w.cell? ⟨k3, 1, none⟩ = some (.int .i64 c) ∧ w.cell? ⟨k3, 2, none⟩ = some (.bool q) ∧
      w.frozen? ⟨k3, 0, none⟩ = false ∧ w.frozen? ⟨k3, 1, none⟩ = false ∧ w.frozen? ⟨k3, 2, none⟩ = false) :=
  ⟨⟨cell_at h.b1 0, cell_at h.b1 1, cell_at h.b1 2, free_at h.b1 0, free_at h.b1 1, free_at h.b1 2⟩,
   ⟨cell_at h.b2 0, cell_at h.b2 1, cell_at h.b2 2, cell_at h.b2 3, free_at h.b2 0, free_at h.b2 1, free_at h.b2 2, free_at h.b2 3⟩,
   ⟨cell_at h.b3 0, cell_at h.b3 1, cell_at h.b3 2, free_at h.b3 0, free_at h.b3 1, free_at h.b3 2⟩⟩
theorem Played.alloc {F g : Nat} {a w : World} (h : Played F g a w) (o : Obj) (hF : F ≤ w.heap.size) : Played F g a (w.alloc o) :=
  ⟨h.os, h.tape, h.output, by have := h.size; simp; omega, fun k hk hg => (Below.heap_alloc w o k (by omega)).trans (h.block k hk hg)⟩
theorem Played.drawn {F g : Nat} {a w : World} (h : Played F g a w) (n : Nat) : Played F g a (w.drewN n) := h.rolled (Rolled.drawn g w n)
theorem floc_new (w : World) (g a : Nat) (S : ByteArray) (D Q : UInt8) (q : Nat) (c : Int) (h : RdrAt w g S a) (w4 : World)
    (e : w4 = ((((w.alloc (.cells #[.int .u8 D.toNat, .int .u8 Q.toNat] 23)).alloc (.cells #[.string ⟨#[]⟩, .int .i64 0, .bool false] 50)).alloc (.cells #[.int .i64 0, .int .i64 0, .int .i64 0, .int .i64 0] 77)).drewN q).alloc (.cells #[.string ⟨#[]⟩, .int .i64 c, .bool false] 50)) :
    RdrAt w4 g S a ∧ Played w.heap.size g w w4 ∧ FLoc w4 (w.heap.size + 1 + 1 + 1 + 1) g w.heap.size (w.heap.size + 1) (w.heap.size + 1 + 1) (w.heap.size + 1 + 1 + 1) D Q ⟨#[]⟩ c false ∧ w4.heap.size = w.heap.size + 1 + 1 + 1 + 1 ∧ g < w.heap.size := by
  have hlt := (Array.getElem?_eq_some_iff.1 h.cells).1
  have hz : ∀ (w : World) (n : Nat), (w.drewN n).heap.size = w.heap.size := fun w n => (Rolled.drawn 0 w n).size
  have hs1 := fun o => (show (w.alloc o).heap.size = w.heap.size + 1 by simp)
  subst e
  refine ⟨(((h.alloc _).alloc _).alloc _).drawn q |>.alloc _, ?_, ⟨?_, ?_, ?_, ?_, by omega⟩, ?_, hlt⟩
  · refine Played.alloc (Played.drawn (Played.alloc (Played.alloc (Played.alloc (Played.refl _ _ _) _ ?_) _ ?_) _ ?_) q) _ ?_
    all_goals (try simp only [hz]); simp; try omega
  · rw [Below.heap_alloc _ _ _ (by rw [hz]; simp; omega), drewN_heap, Below.heap_alloc _ _ _ (by simp; omega), Below.heap_alloc _ _ _ (by simp)]
    exact (heap_alloc_new w _)
  · rw [Below.heap_alloc _ _ _ (by rw [hz]; simp), drewN_heap, Below.heap_alloc _ _ _ (by simp)]
    exact (by have := heap_alloc_new (w.alloc (.cells #[.int .u8 D.toNat, .int .u8 Q.toNat] 23)) (.cells #[.string ⟨#[]⟩, .int .i64 0, .bool false] 50); simpa using this)
  · rw [Below.heap_alloc _ _ _ (by rw [hz]; simp), drewN_heap]
    exact (by have := heap_alloc_new ((w.alloc (.cells #[.int .u8 D.toNat, .int .u8 Q.toNat] 23)).alloc (.cells #[.string ⟨#[]⟩, .int .i64 0, .bool false] 50)) (.cells #[.int .i64 0, .int .i64 0, .int .i64 0, .int .i64 0] 77); simpa using this)
  · have := heap_alloc_new ((((w.alloc (.cells #[.int .u8 D.toNat, .int .u8 Q.toNat] 23)).alloc (.cells #[.string ⟨#[]⟩, .int .i64 0, .bool false] 50)).alloc (.cells #[.int .i64 0, .int .i64 0, .int .i64 0, .int .i64 0] 77)).drewN q) (.cells #[.string ⟨#[]⟩, .int .i64 c, .bool false] 50)
    rw [hz] at this
    simpa using this
  · simp
/-- Behind the walk: what was stored into the call's own blocks. -/
theorem Played.own {F g k j : Nat} {a w : World} (h : Played F g a w) (hk : F ≤ k) (v : Value) : Played F g a (w.setCell ⟨k, j, none⟩ v) :=
  ⟨by rw [← h.os]; simp [World.setCell], by rw [← h.tape]; simp [World.setCell], by rw [← h.output]; simp [World.setCell], by rw [(Rolled.set k j w v).size]; exact h.size,
    fun i hi hg => ((Rolled.set k j w v).block i (by omega)).trans (h.block i hi hg)⟩
theorem RdrAt.own {w : World} {g a k j : Nat} {S : ByteArray} (h : RdrAt w g S a) (hk : g < k) (v : Value) : RdrAt (w.setCell ⟨k, j, none⟩ v) g S a :=
  ReaderAt.rolled h ((Rolled.set k j w v).block g (by omega))

theorem extract_val (S : ByteArray) (a b : Nat) : Value.string (S.extract a b) = strV (((lst S).drop a).take (b - a)) := by
  unfold strV
  congr 1
  have := Lib.extract_toList S a b
  apply ByteArray.ext
  apply Array.toList_inj.1
  rw [← Lib.toList_data, this]
theorem out_world {w w8 w9 : World} {F g a k0 k1 k2 k3 : Nat} {S : ByteArray} {D Q : UInt8} {t : ByteArray} {c : Int} {q : Bool} (hL : FLoc w8 F g k0 k1 k2 k3 D Q t c q) (hR : RdrAt w8 g S a) (hP : Played w.heap.size g w w8) (hk : w.heap.size ≤ k0)
    (x0 x1 x2 y0 y1 y2 y3 : Value) (e : w9 = ((((((w8.setCell ⟨k1, 0, none⟩ x0).setCell ⟨k1, 1, none⟩ x1).setCell ⟨k1, 2, none⟩ x2).setCell ⟨k2, 0, none⟩ y0).setCell ⟨k2, 1, none⟩ y1).setCell ⟨k2, 2, none⟩ y2).setCell ⟨k2, 3, none⟩ y3) :
    w9.heap[k1]? = some (.cells #[x0, x1, x2] 50 (0, 0)) ∧ w9.heap[k2]? = some (.cells #[y0, y1, y2, y3] 77 (0, 0)) ∧ RdrAt w9 g S a ∧ Played w.heap.size g w w9 := by
  have hl := hL.lt
  subst e
  refine ⟨?_, ?_, ?_, ?_⟩
  · rw [(Rolled.set k2 3 _ y3).block _ (by omega), (Rolled.set k2 2 _ y2).block _ (by omega), (Rolled.set k2 1 _ y1).block _ (by omega), (Rolled.set k2 0 _ y0).block _ (by omega)]
    rw [heap_setCell_same _ k1 2 _ _ _ (heap_setCell_same _ k1 1 _ _ _ (heap_setCell_same _ k1 0 _ _ _ hL.b1))]
    rfl
  · have h2 : (((w8.setCell ⟨k1, 0, none⟩ x0).setCell ⟨k1, 1, none⟩ x1).setCell ⟨k1, 2, none⟩ x2).heap[k2]? = some (.cells #[.int .i64 0, .int .i64 0, .int .i64 0, .int .i64 0] 77 (0, 0)) := by
      rw [(Rolled.set k1 2 _ x2).block _ (by omega), (Rolled.set k1 1 _ x1).block _ (by omega), (Rolled.set k1 0 _ x0).block _ (by omega)]
      exact hL.b2
    rw [heap_setCell_same _ k2 3 _ _ _ (heap_setCell_same _ k2 2 _ _ _ (heap_setCell_same _ k2 1 _ _ _ (heap_setCell_same _ k2 0 _ _ _ h2)))]
    rfl
  · exact ((((((hR.own (by omega) _).own (by omega) _).own (by omega) _).own (by omega) _).own (by omega) _).own (by omega) _).own (by omega) _
  · exact ((((((hP.own (by omega) _).own (by omega) _).own (by omega) _).own (by omega) _).own (by omega) _).own (by omega) _).own (by omega) _

set_option maxHeartbeats 4000000 in
set_option maxRecDepth 100000 in
theorem rfield_plain (g a : Nat) (S : ByteArray) (D Q : UInt8) (w : World) (h : RdrAt w g S a) (hD : D.toNat ≠ 10) (hQ : Q.toNat ≠ 10) (hn : ((lst S).drop a).head? ≠ some Q) :
    Calls Tryd.prog 60 #[.pointer (some ⟨g, 0, none⟩), .agg #[.int .u8 D.toNat, .int .u8 Q.toNat]] w (FieldOut g S w (plainP (lst S) D Q a)) := by
  have cC := fun w' (h' : RdrAt w' g S a) => column_any g a _ _ S w' h'
  have CC := hid cC
  have H := hid h
  have hle := h.le
  have hcase : (a = S.size ∧ Hid True) ∨ ∃ (hlt : a < S.size) (x : Nat), (S[a]'hlt).toNat = x ∧ x ≠ Q.toNat := by
    by_cases hlt : a < S.size
    · refine .inr ⟨hlt, _, rfl, fun e => hn ?_⟩
      rw [List.drop_eq_getElem_cons (by rw [← Lib.size_eq]; exact hlt)]
      simp only [List.head?_cons]
      exact congrArg some (UInt8.toNat_inj.1 e)
    · exact .inl ⟨by omega, hid trivial⟩
  clear h cC
  go_enter Tryd.func60, Tryd.ntmps60
  go_wp2_with fail
  refine (CC.out _ (((H.out.alloc _).alloc _).alloc _)).mono ?_
  rintro e w1 ⟨rfl, q, rfl⟩
  go_wp2
  obtain ⟨w4, hw4⟩ : ∃ w4, w4 = ((((w.alloc (.cells #[.int .u8 D.toNat, .int .u8 Q.toNat] 23)).alloc (.cells #[.string ⟨#[]⟩, .int .i64 0, .bool false] 50)).alloc (.cells #[.int .i64 0, .int .i64 0, .int .i64 0, .int .i64 0] 77)).drewN q).alloc (.cells #[.string ⟨#[]⟩, .int .i64 ((a : Int) - (begOf (lst S) a : Int) + 1), .bool false] 50) := ⟨_, rfl⟩
  rw [← hw4]
  obtain ⟨hR, hP, hL, hsz, hgl⟩ := floc_new w g a S D Q q _ H.out w4 hw4
  have HP := hid hP
  clear hw4 hP CC H
  have hH : w.heap.size < w.heap.size + 1 + 1 + 1 + 1 := by omega
  generalize w.heap.size + 1 + 1 + 1 + 1 = F at hL hsz hH
  generalize w.heap.size + 1 + 1 + 1 = k3 at hL ⊢
  generalize w.heap.size + 1 + 1 = k2 at hL ⊢
  generalize w.heap.size + 1 = k1 at hL ⊢
  have hge : w.heap.size ≤ w.heap.size := Nat.le_refl _
  generalize hk0 : w.heap.size = k0 at hL hge ⊢
  have hge' : w.heap.size ≤ k0 := by omega
  have hkF : k0 < F := by omega
  clear hge hk0 hgl hH hsz
  have hl := hL.lt
  have HR := hid hR
  have HL := hid hL
  have hc0 := ReaderAt.c0 hR
  have hc1 := ReaderAt.c1 hR
  have hd0 := cell_at hL.b0 0
  have hd1 := cell_at hL.b0 1
  simp only [List.getElem?_toArray, List.getElem?_cons_zero, List.getElem?_cons_succ] at hd0 hd1
  have HLT := hid hl
  clear hR hL hl
  go_cut [38] (fun v wx => v = .bool false ∧ ∃ n, wx = w4.drewN n)
  case first =>
    rcases hcase with ⟨ha, _⟩ | ⟨hlt, x, hx, hxQ⟩
    · go_quiet (fail)
      go_wp2
      go_meet
      exact ⟨rfl, _, rfl⟩
    · have hltz : (a : Int) < (S.size : Int) := by omega
      have hxz : ((x : Int) == (Q.toNat : Int)) = false := by simp; omega
      go_quiet (fail)
      go_wp2
      go_meet
      exact ⟨rfl, _, rfl⟩
  case rest =>
    obtain ⟨rfl, n4, rfl⟩ := hcut
    have hR := HR.out.drawn n4
    have hP := HP.out.drawn n4
    have hL := HL.out.played (Played.drawn (Played.refl F g w4) n4) (Nat.le_refl _)
    clear HR HP HL hc0 hc1 hd0 hd1
    generalize w4.drewN n4 = w5 at hR hP hL ⊢
    have hc1 := ReaderAt.c1 hR
    have HR := hid hR
    have HP := hid hP
    have HL := hid hL
    clear hR hP hL hcase
    go_wp2
    go_loopg [6] (S.size + 1) (fun gk s6 wx => s6 = .bool false ∧ ∃ a' : Nat, RdrAt wx g S a' ∧ a ≤ a' ∧ Hid (PInv (lst S) D Q a a') ∧ Played F g w5 wx ∧ S.size - a' < gk)
    case atStart => exact ⟨rfl, a, HR.out, Nat.le_refl _, hid (PInv.start _ _ _ _), Played.refl _ _ _, by omega⟩
    case round =>
      obtain ⟨rfl, a', hR, haa, hI, hPx, hgk⟩ := hrel
      obtain ⟨g', rfl⟩ : ∃ g', gk = g' + 1 := ⟨gk - 1, by omega⟩
      have hle' := hR.le
      have hL := HL.out.played hPx (Nat.le_refl _)
      have hPw : Played w.heap.size g w wr := HP.out.trans hPx (by omega)
      have cE := fun n => ended_any g a' _ _ S (wr.drewN n) (hR.drawn n)
      have cC := fun w' (h' : RdrAt w' g S a') => column_any g a' _ _ S w' h'
      have hc0 := ReaderAt.c0 hR
      have hc1 := ReaderAt.c1 hR
      have hd0 := cell_at hL.b0 0
      have hd1 := cell_at hL.b0 1
      simp only [List.getElem?_toArray, List.getElem?_cons_zero, List.getElem?_cons_succ] at hd0 hd1
      have e1 : IntKind.i64.wrap ((a' : Int) + 1) = (a' : Int) + 1 := IntWalk.i64_in _ (by have := hR.small; omega)
      have HR2 := hid hR
      have HP2 := hid hPw
      have HL2 := hid hL
      have HPX := hid hPx
      have CC := hid cC
      clear hR hPx hPw hL HR HP cC
      obtain ⟨bl, hbl⟩ : ∃ bl, endL ((lst S).drop a') = bl := ⟨_, rfl⟩
      have cE' : ∀ n, Calls Tryd.prog 44 #[.pointer (some ⟨g, 0, none⟩)] (wr.drewN n) fun e w' => e = .returned (.bool bl) ∧ ∃ q, w' = (wr.drewN n).drewN q := by
        intro n
        rw [← hbl]
        exact cE n
      clear cE
      have hbd : bl = true ∨ (bl = false ∧ ∃ (hlt : a' < S.size) (x : Nat), (S[a']'hlt).toNat = x ∧ (x = D.toNat ∨ x ≠ D.toNat)) := by
        cases bl with
        | true => exact .inl rfl
        | false =>
          have := end_lt _ _ hbl
          have hlt : a' < S.size := by rw [Lib.size_eq]; exact this
          exact .inr ⟨rfl, hlt, _, rfl, Decidable.em _⟩
      have HBL := hid hbl
      have hend : bl = true → plainP (lst S) D Q a = .ok ⟨((lst S).drop a).take (a' - a), colP (lst S) a, false⟩ a' := fun e =>
        hI.out.done haa (by rw [← Lib.size_eq]; exact hle') (.inl (by rw [HBL.out, e]))
      have hend2 : ∀ (hlt : a' < S.size), bl = false → (S[a']'hlt).toNat = D.toNat → plainP (lst S) D Q a = .ok ⟨((lst S).drop a).take (a' - a), colP (lst S) a, false⟩ a' := fun hlt e hx =>
        hI.out.done haa (by rw [← Lib.size_eq]; exact hle') (.inr ⟨by rw [← Lib.size_eq]; exact hlt, by rw [HBL.out, e], UInt8.toNat_inj.1 hx⟩)
      have HE1 := hid hend
      have HE2 := hid hend2
      clear hbl hend hend2
      go_wp2_with fail
      go_cut [6, 198] from 182 to 225 (fun v6 v wx => v6 = .bool false ∧ ∃ go : Bool, v = .bool go ∧ (∃ n, wx = wr.drewN n) ∧ (go = false → Hid (plainP (lst S) D Q a = .ok ⟨((lst S).drop a).take (a' - a), colP (lst S) a, false⟩ a')) ∧ (go = true → bl = false ∧ ∃ (hlt : a' < S.size), (S[a']'hlt).toNat ≠ D.toNat))
      case first =>
        rcases hbd with rfl | ⟨rfl, hlt, x, hx, hD' | hD'⟩
        · go_quiet ((go_at_call 44; with_reducible refine Calls.quiet_of (cE' _)))
          go_wp2
          go_meet
          exact ⟨rfl, false, rfl, ⟨_, rfl⟩, fun _ => hid (HE1.out (by simp)), fun h => by simp at h⟩
        · subst hD'
          have hltz : (a' : Int) < (S.size : Int) := by omega
          have hne : ((D.toNat : Int) != (D.toNat : Int)) = false := by simp
          go_quiet ((go_at_call 44; with_reducible refine Calls.quiet_of (cE' _)))
          go_wp2
          go_meet
          exact ⟨rfl, false, rfl, ⟨_, rfl⟩, fun _ => hid (HE2.out hlt (by simp) hx), fun h => by simp at h⟩
        · have hltz : (a' : Int) < (S.size : Int) := by omega
          have hne : ((x : Int) != (D.toNat : Int)) = true := by simp; omega
          go_quiet ((go_at_call 44; with_reducible refine Calls.quiet_of (cE' _)))
          go_wp2
          go_meet
          exact ⟨rfl, true, rfl, ⟨_, rfl⟩, fun h => by simp at h, fun _ => ⟨by simp, hlt, by omega⟩⟩
      case rest =>
        obtain ⟨rfl, go, rfl, ⟨n6, rfl⟩, hgo0, hgo1⟩ := hcut
        have hR := HR2.out.drawn n6
        have hP := HP2.out.drawn n6
        have hL := HL2.out.played (Played.drawn (Played.refl F g wr) n6) (Nat.le_refl _)
        have hPx := HPX.out.drawn n6
        clear HR2 HP2 HL2 HPX hc0 hc1 hd0 hd1 cE' hbd HE1 HE2
        generalize wr.drewN n6 = w6 at hR hP hL hPx ⊢
        have hc0 := ReaderAt.c0 hR
        have hc1 := ReaderAt.c1 hR
        have hf1 := ReaderAt.free hR 1
        have hd1 := cell_at hL.b0 1
        simp only [List.getElem?_toArray, List.getElem?_cons_zero, List.getElem?_cons_succ] at hd1
        have HR2 := hid hR
        have HP2 := hid hP
        have HL2 := hid hL
        have HPX := hid hPx
        clear hR hP hL hPx
        cases go with
        | false =>
          have HRES := hgo0 rfl
          clear hgo0 hgo1 hf1 hd1
          obtain ⟨_, _, ⟨n0, n1, n2, n3, n4', n5⟩⟩ := HL2.out.facts
          have ne3 : k3 ≠ g := by have := HLT.out; omega
          have ne3' : g ≠ k3 := by omega
          clear n1 n2 n4' n5
          go_wp2
          go_region_held3 (fun w' => w'.cell? ⟨g, 0, none⟩ = some (.string S) ∧ w'.cell? ⟨g, 1, none⟩ = some (.int .i64 (a' : Int))) (go_keep) (fail)
          all_goals
            clear n0 n3 hc0 hc1 ne3 ne3'
            have hgk3 : g < k3 ∧ w.heap.size ≤ k3 := by have := HLT.out; omega
            have hR := (HR2.out.own hgk3.1 (j := 0) (.string (S.extract a a'))).drawn 1
            have hP := (HP2.out.own hgk3.2 (j := 0) (.string (S.extract a a'))).drawn 1
            have hL := (HL2.out.text (S.extract a a')).played (Played.drawn (Played.refl F g _) 1) (Nat.le_refl _)
            change RdrAt (World.drew (w6.setCell ⟨k3, 0, none⟩ (.string (S.extract a a')))) g S a' at hR
            change Played _ _ _ (World.drew (w6.setCell ⟨k3, 0, none⟩ (.string (S.extract a a')))) at hP
            change FLoc (World.drew (w6.setCell ⟨k3, 0, none⟩ (.string (S.extract a a')))) _ _ _ _ _ _ _ _ _ _ _ at hL
            generalize World.drew (w6.setCell ⟨k3, 0, none⟩ (.string (S.extract a a'))) = w8 at hR hP hL ⊢
            obtain ⟨⟨p0, p1, p2, p3, p4, p5⟩, ⟨m0, m1, m2, m3, m4, m5, m6, m7⟩, ⟨n0, n1, n2, _, _, _⟩⟩ := hL.facts
            have HR := hid hR
            have HP := hid hP
            have HL := hid hL
            clear hR hP hL HR2 HP2 HL2 HPX
            have ne12 : k1 ≠ k2 := by have := HLT.out; omega
            have ne21 : k2 ≠ k1 := by omega
            go_wp2
            obtain ⟨w9, hw9⟩ : ∃ w9, w9 = ((((((w8.setCell ⟨k1, 0, none⟩ (.string (S.extract a a'))).setCell ⟨k1, 1, none⟩ (.int .i64 ((a : Int) - (begOf (lst S) a : Int) + 1))).setCell ⟨k1, 2, none⟩ (.bool false)).setCell ⟨k2, 0, none⟩ (.int .i64 0)).setCell ⟨k2, 1, none⟩ (.int .i64 0)).setCell ⟨k2, 2, none⟩ (.int .i64 0)).setCell ⟨k2, 3, none⟩ (.int .i64 0) := ⟨_, rfl⟩
            rw [← hw9]
            obtain ⟨q1, q2, hR9, hP9⟩ := out_world HL.out HR.out HP.out hge' _ _ _ _ _ _ _ hw9
            refine bodyPost_ret (v := .tuple #[.agg #[.string (S.extract a a'), .int .i64 ((a : Int) - (begOf (lst S) a : Int) + 1), .bool false], .agg #[.int .i64 0, .int .i64 0, .int .i64 0, .int .i64 0], .bool true]) (results_cct rfl _ _ _ ⟨k1, 0, none⟩ ⟨k2, 0, none⟩ _ _ _ rfl rfl rfl (load50 q1) (load77 q2)) rfl ?_
            refine ⟨hP9, ?_⟩
            rw [HRES.out]
            refine ⟨?_, hR9⟩
            rw [extract_val]
            rfl
        | true =>
          obtain ⟨rfl, hlt, hD'⟩ := hgo1 rfl
          clear hgo0 hgo1
          obtain ⟨x, hx⟩ : ∃ x, (S[a']'hlt).toNat = x := ⟨_, rfl⟩
          have hltz : (a' : Int) < (S.size : Int) := by omega
          have hlL : a' < (lst S).length := by rw [← Lib.size_eq]; exact hlt
          rw [hx] at hD'
          have hcD : (lst S)[a'] ≠ D := fun e => hD' (by rw [← hx, ← e]; rfl)
          by_cases hQ' : x = Q.toNat
          · subst hQ'
            have hqz : ((Q.toNat : Int) == (Q.toNat : Int)) = true := by simp
            have HRES : Hid (plainP (lst S) D Q a = .bad ⟨lineOf (lst S) a', colP (lst S) a', 8⟩ (nxt (lst S) a')) := hid (hI.out.bad haa hlL HBL.out hcD (UInt8.toNat_inj.1 hx))
            go_wp2
            go_quiet (fail)
            have hR := HR2.out.drawn nq
            have hP := HP2.out.drawn nq
            have hL := HL2.out.played (Played.drawn (Played.refl F g w6) nq) (Nat.le_refl _)
            clear HR2 HP2 HL2 HPX hc0 hc1 hf1 hd1
            generalize w6.drewN nq = w7 at hR hP hL ⊢
            have hc2 := ReaderAt.c2 hR
            obtain ⟨⟨p0, p1, p2, p3, p4, p5⟩, ⟨m0, m1, m2, m3, m4, m5, m6, m7⟩, ⟨n0, n1, n2, _, _, _⟩⟩ := hL.facts
            have HRd : Hid (RdrAt w7.drew g S a') := hid (hR.drawn 1)
            have HR2 := hid hR
            have HP2 := hid hP
            have HL3 := hid hL
            clear hR hP hL
            have hne : k1 ≠ k2 ∧ k1 ≠ g ∧ k2 ≠ g ∧ k1 ≠ k3 ∧ k2 ≠ k3 := by have := HLT.out; omega
            obtain ⟨ne12, ne1g, ne2g, ne13, ne23⟩ := hne
            have ne21 := ne12.symm
            have neg1 := ne1g.symm
            have neg2 := ne2g.symm
            have ne31 := ne13.symm
            have ne32 := ne23.symm
            go_wp2
            go_region_held3 (fun w' => w'.cell? ⟨g, 2, none⟩ = some (.int .i64 (lineOf (lst S) a' : Int)) ∧ w'.cell? ⟨k3, 0, none⟩ = some (.string ⟨#[]⟩) ∧ w'.cell? ⟨k3, 1, none⟩ = some (.int .i64 ((a : Int) - (begOf (lst S) a : Int) + 1)) ∧ w'.cell? ⟨k3, 2, none⟩ = some (.bool false)) (go_keep)
              (first | (go_at_call 59; refine (CC.out _ HRd.out).mono ?_; rintro e w' ⟨rfl, q', rfl⟩))
            all_goals go_wp2
            all_goals
              obtain ⟨w8, hw8⟩ : ∃ w8, w8 = w7.drewN (1 + q') := ⟨_, rfl⟩
              have hR8 := HR2.out.drawn (1 + q')
              have hP8 := HP2.out.drawn (1 + q')
              have hL8 := HL3.out.played (Played.drawn (Played.refl F g w7) (1 + q')) (Nat.le_refl _)
              rw [← hw8] at hR8 hP8 hL8 ⊢
              obtain ⟨w9, hw9⟩ : ∃ w9, w9 = ((((((w8.setCell ⟨k1, 0, none⟩ (.string ⟨#[]⟩)).setCell ⟨k1, 1, none⟩ (.int .i64 ((a : Int) - (begOf (lst S) a : Int) + 1))).setCell ⟨k1, 2, none⟩ (.bool false)).setCell ⟨k2, 0, none⟩ (.int .i64 0)).setCell ⟨k2, 1, none⟩ (.int .i64 (lineOf (lst S) a' : Int))).setCell ⟨k2, 2, none⟩ (.int .i64 ((a' : Int) - (begOf (lst S) a' : Int) + 1))).setCell ⟨k2, 3, none⟩ (.int .i64 8) := ⟨_, rfl⟩
              rw [← hw9]
              obtain ⟨q1, q2, hR9, hP9⟩ := out_world hL8 hR8 hP8 hge' _ _ _ _ _ _ _ hw9
              refine bodyPost_ret (v := .tuple #[.agg #[.string ⟨#[]⟩, .int .i64 ((a : Int) - (begOf (lst S) a : Int) + 1), .bool false], .agg #[.int .i64 0, .int .i64 (lineOf (lst S) a' : Int), .int .i64 ((a' : Int) - (begOf (lst S) a' : Int) + 1), .int .i64 8], .bool false]) (results_cct rfl _ _ _ ⟨k1, 0, none⟩ ⟨k2, 0, none⟩ _ _ _ rfl rfl rfl (load50 q1) (load77 q2)) rfl ?_
              refine ⟨hP9, ?_⟩
              rw [HRES.out]
              exact ⟨⟨_, _, _, rfl⟩, a', hR9, rfl⟩
          · have hqz : ((x : Int) == (Q.toNat : Int)) = false := by simp; omega
            have hcQ : (lst S)[a'] ≠ Q := fun e => hQ' (by rw [← hx, ← e]; rfl)
            have hx10 : (S[a']'hlt).toNat ≠ 10 := by
              intro e
              have h := HBL.out
              rw [drop_at S a' hlt, endL_cons] at h
              simp [e] at h
            have HI2 := hid (hI.out.step haa hlL HBL.out hcD hcQ)
            go_wp2
            go_quiet (fail)
            have HR3 := hid ((HR2.out.drawn nq).step hlt hx10)
            have HPX3 := hid ((HPX.out.drawn nq).rolled (Rolled.set g 1 (w6.drewN nq) (.int .i64 ((a' : Int) + 1))))
            go_wp2
            go_roundg g'
            case measure => omega
            case rel => exact ⟨rfl, a' + 1, HR3.out, by omega, HI2, HPX3.out, by omega⟩
end Go.Proofs.YtcpkefjijinhiaaDoor
