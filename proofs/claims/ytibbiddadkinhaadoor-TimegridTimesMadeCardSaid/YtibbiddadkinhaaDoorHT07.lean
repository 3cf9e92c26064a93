/-
  Parse of timegrid. Conditions: the variables hold what their text lays; the string fits into memory.
-/
import Derived.Test.YtibbiddadkinhaaDoorHT01
import Derived.Test.YtibbiddadkinhaaDoorHT02
import Derived.Test.YtibbiddadkinhaaDoorHT03
import Derived.Test.YtibbiddadkinhaaDoorHT04
import Derived.Test.YtibbiddadkinhaaDoorHT05
import Derived.Test.YtibbiddadkinhaaDoorHT06
import Derived.Test.YtibbiddadkinhaaDoorProg
import Derived.WalkKit
import Derived.WalkSpells
import Derived.WalkLawsBesides
import Derived.Lib.Hide
import Derived.Deep.QuietTactic
import Derived.BigQuiet
import Derived.Laws.Rows
import Derived.OwnWalk
import Derived.Lib.BufferWrite
import Derived.Lib.UnsafeStr
import Derived.Laws.IdiomStrings
import Derived.Laws.BytesArg
import Derived.Laws.BytesString
import Derived.Laws.OwnMore
import Derived.Lib.IndexLaws
import Derived.Lib.ItoaNum
import Derived.Lib.Atoi
import Derived.Laws.BitsAllLaws
import Derived.Laws.BitsLemmas
import Derived.Deep.MidRow
import Derived.Shelf.Strings.Builder1
import Derived.Shelf.Strings.Builder2
import Derived.Shelf.Strings.OnBuilder
import Derived.Shelf.Strings.BuilderF
import Derived.Shelf.Strings.BuilderK
import Derived.Shelf.Strings.Builder2Cap
import Derived.Shelf.Strconv.Atoi
import Derived.Shelf.Strconv.Itoa0
import Derived.Shelf.Strconv.Itoa1
import Derived.Shelf.LaysM
import Derived.Shelf.Strconv.Itoa2
import Derived.Shelf.Strconv.Itoa3
import Derived.Shelf.Strconv.AtoiErrFast
import Derived.Shelf.Strconv.ParseIntEmpty
import Derived.Shelf.Strconv.AtoiFail
import Derived.Shelf.Strconv.Clone
import Derived.Shelf.Strconv.SyntaxError
import Derived.Shelf.LaysC
import Derived.Shelf.Strconv.ToError
import Derived.Shelf.Strconv.AtoiErr
import Derived.Shelf.Strings.Search1
import Derived.Shelf.Strings.Search2
import Derived.Shelf.Strings.Search3
import Derived.Shelf.Strings.Cut
import Derived.Shelf.Strings.Shaped
import Derived.Shelf.Strings.Prefix
import Derived.Shelf.Unicode.DecodeSlow
import Derived.Shelf.Strings.BuilderCap
import Derived.Lib.AtoiErrMem
import Derived.Handy
import Derived.RangeFuncNested
import Derived.RangeFuncBound
import Derived.RangeFuncCalls
import Derived.RangeFuncLeaves
import Derived.Shelf.Abstract
import Derived.Shelf.RegionOpen
import Derived.OwnWalkIn
import Derived.TacticsInMore
import Derived.LoopNIn
import Derived.LoopIn
import Derived.Laws.ResultCell
import Derived.Deep.RegionLaw
import Derived.Deep.RegionHeld3
set_option linter.unusedVariables false
namespace Go.Proofs.YtibbiddadkinhaaDoor
open Go Go.Proofs Go.RowKit Go.Lib

theorem results_ct {fn : Func} {p u : Tmp} {A : TypeId} (h : fn.results = #[.cell p A, .tmp u]) (tmps : Array Value) (P : Program) (w : World) (a : Addr) (va vc : Value)
    (ha : tmps.getD p undef = .pointer (some a)) (hc : tmps.getD u undef = vc)
    (hla : (loadVar A a).run P w = .ok va w) : (results fn tmps).run P w = .ok (.tuple #[va, vc]) w := by
  rw [Array.getD_eq_getD_getElem?] at ha hc
  simp only [results, h]
  simp [Result.andThen, ha, hc, hla, asAddr]
theorem loadT {w : World} {k : Nat} {x y z u : Value} (h : w.heap[k]? = some (.cells #[x, y, z, u] 25 (0, 0))) : (loadVar 25 ⟨k, 0, none⟩).run Tryd.prog w = .ok (.agg #[x, y, z, u]) w := by
  have h0 : w.cell? ⟨k, 0, none⟩ = some x := by rw [Lib.cell_of_heap h]; rfl
  have h1 : w.cell? ⟨k, 1, none⟩ = some y := by rw [Lib.cell_of_heap h]; rfl
  have h2 : w.cell? ⟨k, 2, none⟩ = some z := by rw [Lib.cell_of_heap h]; rfl
  have h3 : w.cell? ⟨k, 3, none⟩ = some u := by rw [Lib.cell_of_heap h]; rfl
  simp [loadVar, go_sem, h0, h1, h2, h3]
/-- A time that is to be returned lies in block R. -/
def TimeAt (w : World) (R : Nat) (k y t l : Int) : Prop := w.heap[R]? = some (.cells #[.int .i64 k, .int .i64 y, .int .i64 t, .int .i64 l] 25 (0, 0))
theorem TimeAt.set {w : World} {R : Nat} {k y t l k' y' t' l' : Int} (h : TimeAt w R k y t l) :
    TimeAt ((((w.setCell ⟨R, 0, none⟩ (.int .i64 k')).setCell ⟨R, 1, none⟩ (.int .i64 y')).setCell ⟨R, 2, none⟩ (.int .i64 t')).setCell ⟨R, 3, none⟩ (.int .i64 l')) R k' y' t' l' := by
  have h0 : (w.setCell ⟨R, 0, none⟩ (.int .i64 k')).heap[R]? = some (.cells #[.int .i64 k', .int .i64 y, .int .i64 t, .int .i64 l] 25 (0, 0)) := by
    rw [heap_setCell_same w R 0 _ _ _ h]
    rfl
  generalize w.setCell ⟨R, 0, none⟩ (.int .i64 k') = w0 at h0 ⊢
  have h1 : (w0.setCell ⟨R, 1, none⟩ (.int .i64 y')).heap[R]? = some (.cells #[.int .i64 k', .int .i64 y', .int .i64 t, .int .i64 l] 25 (0, 0)) := by
    rw [heap_setCell_same w0 R 1 _ _ _ h0]
    rfl
  generalize w0.setCell ⟨R, 1, none⟩ (.int .i64 y') = w1 at h1 ⊢
  have h2 : (w1.setCell ⟨R, 2, none⟩ (.int .i64 t')).heap[R]? = some (.cells #[.int .i64 k', .int .i64 y', .int .i64 t', .int .i64 l] 25 (0, 0)) := by
    rw [heap_setCell_same w1 R 2 _ _ _ h1]
    rfl
  generalize w1.setCell ⟨R, 2, none⟩ (.int .i64 t') = w2 at h2 ⊢
  unfold TimeAt
  rw [heap_setCell_same w2 R 3 _ _ _ h2]
  rfl
theorem TimeAt.free {w : World} {R : Nat} {k y t l : Int} (h : TimeAt w R k y t l) (j : Nat) : w.frozen? ⟨R, j, none⟩ = false := by
  unfold TimeAt at h
  simp [World.frozen?, h]
theorem TimeAt.box {w : World} {R : Nat} {k y t l : Int} (h : TimeAt w R k y t l) : Box4 w R k y t l := by
  unfold TimeAt at h
  refine ⟨?_, ?_, ?_, ?_, (Array.getElem?_eq_some_iff.1 h).1⟩
  all_goals (rw [Lib.cell_of_heap h]; rfl)
/-- While Parse runs: the grid's box, the result's block. -/
structure PK (w0 : World) (d s b m : Int) (w : World) : Prop where
  x : Box4 w w0.heap.size d s b m
  r : TimeAt w (w0.heap.size + 1) 0 0 0 0
  b : Below w0.heap.size w0 w
section
variable {w0 w w' : World} {d s b m : Int}
theorem PK.next (h : PK w0 d s b m w) (k : Below w.heap.size w w') : PK w0 d s b m w' :=
  ⟨h.x.next k h.x.lt, (k.block _ (Array.getElem?_eq_some_iff.1 h.r).1).trans h.r, h.b.trans (k.mono h.b.size)⟩
/-- The result stored. -/
theorem PK.fin (h : PK w0 d s b m w) (k' y' t' l' : Int) (W : World)
    (hW : W = ((((w.setCell ⟨w0.heap.size + 1, 0, none⟩ (.int .i64 k')).setCell ⟨w0.heap.size + 1, 1, none⟩ (.int .i64 y')).setCell ⟨w0.heap.size + 1, 2, none⟩ (.int .i64 t')).setCell ⟨w0.heap.size + 1, 3, none⟩ (.int .i64 l'))) :
    (loadVar 25 ⟨w0.heap.size + 1, 0, none⟩).run Tryd.prog W = .ok (.agg #[.int .i64 k', .int .i64 y', .int .i64 t', .int .i64 l']) W ∧ Below w0.heap.size w0 W := by
  subst hW
  exact ⟨loadT h.r.set, (((h.b.setCell (p := ⟨w0.heap.size + 1, 0, none⟩) (by show w0.heap.size ≤ w0.heap.size + 1; omega) _).setCell (p := ⟨w0.heap.size + 1, 1, none⟩) (by show w0.heap.size ≤ w0.heap.size + 1; omega) _).setCell (p := ⟨w0.heap.size + 1, 2, none⟩) (by show w0.heap.size ≤ w0.heap.size + 1; omega) _).setCell (p := ⟨w0.heap.size + 1, 3, none⟩) (by show w0.heap.size ≤ w0.heap.size + 1; omega) _⟩
end
theorem PK.first (w : World) (d s b m : Int) (t : TypeId) : PK w d s b m ((w.alloc (.cells #[.int .i64 d, .int .i64 s, .int .i64 b, .int .i64 m] t)).alloc (.cells #[.int .i64 0, .int .i64 0, .int .i64 0, .int .i64 0] 25)) := by
  have h1 := K1.first w d s b m t
  have hs : (w.alloc (.cells #[.int .i64 d, .int .i64 s, .int .i64 b, .int .i64 m] t)).heap.size = w.heap.size + 1 := by simp
  generalize w.alloc (.cells #[.int .i64 d, .int .i64 s, .int .i64 b, .int .i64 m] t) = w1 at h1 hs ⊢
  have h2 := heap_alloc_new w1 (.cells #[.int .i64 0, .int .i64 0, .int .i64 0, .int .i64 0] 25)
  have k : Below w1.heap.size w1 (w1.alloc (.cells #[.int .i64 0, .int .i64 0, .int .i64 0, .int .i64 0] 25)) := (Below.refl _ w1).alloc (Nat.le_refl _) _
  rw [hs] at h2
  exact ⟨h1.x.next k h1.x.lt, h2, h1.b.trans (k.mono h1.b.size)⟩
theorem set_small {s : ByteArray} (hz : s.size ≤ 4611686018427387904) : (ba (setT (lst s))).size ≤ 4611686018427387904 := by
  rw [ba_size]
  unfold setT
  split
  · have h1 := aft_le 32 (aft 32 (lst s))
    have h2 := aft_le 32 (lst s)
    rw [← Lib.size_eq] at h2
    unfold wSet
    omega
  · simp
theorem slots_small {s : ByteArray} (hz : s.size ≤ 4611686018427387904) : (ba (wSlots (lst s))).size ≤ 4611686018427387904 := by
  rw [ba_size]
  unfold wSlots
  have h1 := bef_le 32 (aft 32 (lst s))
  have h2 := aft_le 32 (lst s)
  rw [← Lib.size_eq] at h2
  omega
theorem weeks_set {x : Str} {n : Nat} (h1 : 1 ≤ n) (h2 : n ≤ 20) : parseM (setT x) (n : Int) = weeksT x n := by
  unfold parseM setT weeksT
  rw [if_pos (by omega), Int.toNat_natCast]
  split
  · rfl
  · exact parse_all h1 h2
/-- What a function hands back that returns a time and an error. -/
def TimeOut (r : (Int × Int × Int × Int) × Int) (w : World) (e : Ending) (w' : World) : Prop :=
  e = .returned (.tuple #[.agg #[.int .i64 r.1.1, .int .i64 r.1.2.1, .int .i64 r.1.2.2.1, .int .i64 r.1.2.2.2], .int .i64 r.2]) ∧ Below w.heap.size w w'
theorem four_body {d s : Int} {n : Nat} {x : Str} {k : Nat} {D : Bool} {f g : Nat} {Q : Bool} {v : Nat} {e : Int} (h1 : dayR (wDay x) = (k, D)) (h2 : spanM (wSlots x) = (f, g, Q)) (h3 : weeksT x n = (v, e)) {O : Bool} (h4 : wordsB x = O) :
    ((O = false ∨ O = true ∧ D = false ∨ O = true ∧ D = true ∧ Q = false) ∧ bodyT d s n x = ((0, 0, 0, 0), 4)) ∨
    (O = true ∧ D = true ∧ Q = true ∧ f < 100 ∧ g < 100 ∧ k < 7 ∧
      ((d ≤ k ∧ bodyT d s n x = ((0, 0, 0, 0), 14)) ∨ (¬ d ≤ k ∧ ((g < f ∧ bodyT d s n x = ((0, 0, 0, 0), 14)) ∨ (¬ g < f ∧ ((s < g ∧ bodyT d s n x = ((0, 0, 0, 0), 14)) ∨
        (¬ s < g ∧ ((e ≠ 0 ∧ bodyT d s n x = ((0, 0, 0, 0), e)) ∨ (e = 0 ∧ bodyT d s n x = (((v : Int), (k : Int), (f : Int) - 1, (g : Int) - (f : Int) + 1), 0)))))))))) := by
  unfold dayR at h1
  unfold spanM at h2
  unfold bodyT
  have hfl : fromN (wSlots x) < 100 := smallN_lt _
  have hgl : toN (wSlots x) < 100 := by unfold toN; split <;> exact smallN_lt _
  cases O with
  | false => exact .inl ⟨.inl rfl, by rw [if_neg (by rw [h4]; simp)]⟩
  | true =>
    rw [h4]
    by_cases hz : fromN (wSlots x) = 0 ∨ toN (wSlots x) = 0
    · rw [if_pos hz] at h2
      injection h2 with h2 h5
      injection h5 with h5 h6
      subst h6
      rw [if_neg (fun h => h.2 hz)]
      cases D with
      | false => exact .inl ⟨.inr (.inl ⟨rfl, rfl⟩), rfl⟩
      | true => exact .inl ⟨.inr (.inr ⟨rfl, rfl, rfl⟩), rfl⟩
    · rw [if_neg hz] at h2
      injection h2 with h2 h5
      injection h5 with h5 h6
      subst h6
      rw [if_pos ⟨rfl, hz⟩]
      cases hd : dayK (wDay x) with
      | none =>
        rw [hd] at h1
        injection h1 with h7 h8
        subst h8
        exact .inl ⟨.inr (.inl ⟨rfl, rfl⟩), rfl⟩
      | some k' =>
        rw [hd] at h1
        injection h1 with h7 h8
        subst h8
        subst h7
        have hk7 := (dayK_some hd).1
        refine .inr ⟨rfl, rfl, rfl, by omega, by omega, hk7, ?_⟩
        dsimp only
        unfold readT
        rw [h2, h5, h3]
        dsimp only
        by_cases a1 : d ≤ (k' : Int)
        · exact .inl ⟨a1, by rw [if_neg (by omega)]⟩
        · refine .inr ⟨a1, ?_⟩
          by_cases a2 : g < f
          · exact .inl ⟨a2, by rw [if_neg (fun h => h.2.1 a2)]⟩
          · refine .inr ⟨a2, ?_⟩
            by_cases a3 : s < (g : Int)
            · exact .inl ⟨a3, by rw [if_neg (by omega)]⟩
            · refine .inr ⟨a3, ?_⟩
              rw [if_pos ⟨by omega, a2, by omega⟩]
              by_cases a4 : e = 0
              · exact .inr ⟨a4, by rw [if_pos a4]⟩
              · exact .inl ⟨a4, by rw [if_neg a4]⟩
set_option maxHeartbeats 8000000 in
set_option maxRecDepth 100000 in
theorem tparse_any (d s b m N : Int) (x : ByteArray) (hz : x.size ≤ 4611686018427387904) (w : World) (hE : Env w) (hDy : Days w) :
    Calls Tryd.prog 29 #[.agg #[.int .i64 d, .int .i64 s, .int .i64 b, .int .i64 m], .int .i64 N, .string x] w (TimeOut (timeM d s b m N (lst x)) w) := by
  have cF := fun w => isFrame_any d s b m N w
  have cW := fun w => cutWords_any x hz w
  have cD := hid (fun w h => dayOf_any (ba (wDay (lst x))) w h)
  have cS := hid (fun w h => readSpan_any (ba (wSlots (lst x))) (slots_small hz) w h)
  have cP := hid (fun w h => parse_any (ba (setT (lst x))) (set_small hz) N w h)
  have hsz := hE.size
  have HE := hid hE
  have HDY := hid hDy
  unfold Says at cF
  unfold WordsOut at cW
  unfold TimeOut timeM
  cases hf : frameB d s b m N with
  | false =>
    rw [hf] at cF
    rw [if_neg (by simp)]
    clear hf cW cD cS cP hE hDy
    have HK := hid (PK.first w d s b m 23)
    go_enter Tryd.func29, Tryd.ntmps29
    go_wp2_with fail
    refine (cF _).mono ?_
    rintro e w1 ⟨rfl, hb⟩
    have hk := HK.out.next hb
    clear hb HK
    obtain ⟨⟨x0, x1, x2, x3, _⟩, ⟨r0, r1, r2, r3, _⟩⟩ := And.intro hk.x hk.r.box
    have f0 := hk.r.free 0
    have f1 := hk.r.free 1
    have f2 := hk.r.free 2
    have f3 := hk.r.free 3
    go_wp2
    have hf := hk.fin (0) (0) (0) (0) _ rfl
    refine bodyPost_ret (v := .tuple #[.agg #[.int .i64 (0), .int .i64 (0), .int .i64 (0), .int .i64 (0)], .int .i64 (1)]) (results_ct rfl _ _ _ ⟨w.heap.size + 1, 0, none⟩ _ _ rfl rfl hf.1) rfl ?_
    exact ⟨rfl, hf.2⟩
  | true =>
    rw [hf] at cF
    rw [if_pos rfl]
    obtain ⟨_, n1, n2⟩ := frame_of hf
    obtain ⟨n, rfl⟩ := natN (show 0 ≤ N by omega)
    rw [Int.toNat_natCast]
    have cP' := cP.out
    rw [show lst (ba (setT (lst x))) = setT (lst x) from rfl, weeks_set (by omega) (by omega)] at cP'
    have cD' := cD.out
    rw [show lst (ba (wDay (lst x))) = wDay (lst x) from rfl] at cD'
    have cS' := cS.out
    rw [show lst (ba (wSlots (lst x))) = wSlots (lst x) from rfl] at cS'
    unfold SpanOut at cS'
    unfold ItemOut at cP'
    obtain ⟨⟨k, D⟩, hD⟩ : ∃ r, dayR (wDay (lst x)) = r := ⟨_, rfl⟩
    obtain ⟨⟨f, g, Q⟩, hQ⟩ : ∃ r, spanM (wSlots (lst x)) = r := ⟨_, rfl⟩
    obtain ⟨⟨v, e⟩, hV⟩ : ∃ r, weeksT (lst x) n = r := ⟨_, rfl⟩
    obtain ⟨O, hO⟩ : ∃ r, wordsB (lst x) = r := ⟨_, rfl⟩
    have all := four_body (d := d) (s := s) (n := n) hD hQ hV hO
    rw [hD] at cD'
    rw [hQ] at cS'
    rw [hV] at cP'
    rw [hO] at cW
    dsimp only at cD' cS' cP'
    generalize bodyT d s n (lst x) = R at all ⊢
    generalize ba (wDay (lst x)) = X1 at cW cD'
    generalize ba (wSlots (lst x)) = X2 at cW cS'
    generalize ba (setT (lst x)) = X3 at cW cP'
    clear cD cS cP
    have cD := hid cD'
    have cS := hid cS'
    have cP := hid cP'
    clear hf hD hQ hV hO hE hDy cD' cS' cP' n1 n2 hz
    rcases all with ⟨hbad, rfl⟩ | ⟨rfl, rfl, rfl, hfl, hgl, hk7, all⟩
    · rcases hbad with rfl | ⟨rfl, rfl⟩ | ⟨rfl, rfl, rfl⟩
      all_goals
        have HK := hid (PK.first w d s b m 23)
        go_enter Tryd.func29, Tryd.ntmps29
        go_wp2_with fail
        refine (cF _).mono ?_
        rintro e w1 ⟨rfl, hb⟩
        have hk := HK.out.next hb
        clear hb HK
        obtain ⟨⟨x0, x1, x2, x3, _⟩, ⟨r0, r1, r2, r3, _⟩⟩ := And.intro hk.x hk.r.box
        have f0 := hk.r.free 0
        have f1 := hk.r.free 1
        have f2 := hk.r.free 2
        have f3 := hk.r.free 3
        go_wp2_with fail
        refine (cW _).mono ?_
        rintro e w1 ⟨rfl, hb⟩
        have hk := hk.next hb
        clear hb
        obtain ⟨⟨x0, x1, x2, x3, _⟩, ⟨r0, r1, r2, r3, _⟩⟩ := And.intro hk.x hk.r.box
        have f0 := hk.r.free 0
        have f1 := hk.r.free 1
        have f2 := hk.r.free 2
        have f3 := hk.r.free 3
        go_wp2_with fail
        refine (cD.out _ (HDY.out.below hk.b hsz)).mono ?_
        rintro e w1 ⟨rfl, hb⟩
        have hk := hk.next hb
        clear hb
        obtain ⟨⟨x0, x1, x2, x3, _⟩, ⟨r0, r1, r2, r3, _⟩⟩ := And.intro hk.x hk.r.box
        have f0 := hk.r.free 0
        have f1 := hk.r.free 1
        have f2 := hk.r.free 2
        have f3 := hk.r.free 3
        go_wp2_with fail
        refine (cS.out _ (HE.out.below hk.b hsz)).mono ?_
        rintro e w1 ⟨rfl, hb⟩
        have hk := hk.next hb
        clear hb
        obtain ⟨⟨x0, x1, x2, x3, _⟩, ⟨r0, r1, r2, r3, _⟩⟩ := And.intro hk.x hk.r.box
        have f0 := hk.r.free 0
        have f1 := hk.r.free 1
        have f2 := hk.r.free 2
        have f3 := hk.r.free 3
        go_wp2
        have hf := hk.fin (0) (0) (0) (0) _ rfl
        refine bodyPost_ret (v := .tuple #[.agg #[.int .i64 (0), .int .i64 (0), .int .i64 (0), .int .i64 (0)], .int .i64 (4)]) (results_ct rfl _ _ _ ⟨w.heap.size + 1, 0, none⟩ _ _ rfl rfl hf.1) rfl ?_
        exact ⟨rfl, hf.2⟩
    · have e1 : IntKind.i64.wrap ((f : Int) - 1) = (f : Int) - 1 := IntWalk.i64_in _ (by omega)
      have e2 : IntKind.i64.wrap ((g : Int) - (f : Int)) = (g : Int) - (f : Int) := IntWalk.i64_in _ (by omega)
      have e3 : IntKind.i64.wrap ((g : Int) - (f : Int) + 1) = (g : Int) - (f : Int) + 1 := IntWalk.i64_in _ (by omega)
      rcases all with ⟨a1, rfl⟩ | ⟨a1, all⟩
      · have b1 : decide (d ≤ (k : Int)) = true := decide_eq_true a1
        have HK := hid (PK.first w d s b m 23)
        go_enter Tryd.func29, Tryd.ntmps29
        go_wp2_with fail
        refine (cF _).mono ?_
        rintro e w1 ⟨rfl, hb⟩
        have hk := HK.out.next hb
        clear hb HK
        obtain ⟨⟨x0, x1, x2, x3, _⟩, ⟨r0, r1, r2, r3, _⟩⟩ := And.intro hk.x hk.r.box
        have f0 := hk.r.free 0
        have f1 := hk.r.free 1
        have f2 := hk.r.free 2
        have f3 := hk.r.free 3
        go_wp2_with fail
        refine (cW _).mono ?_
        rintro e w1 ⟨rfl, hb⟩
        have hk := hk.next hb
        clear hb
        obtain ⟨⟨x0, x1, x2, x3, _⟩, ⟨r0, r1, r2, r3, _⟩⟩ := And.intro hk.x hk.r.box
        have f0 := hk.r.free 0
        have f1 := hk.r.free 1
        have f2 := hk.r.free 2
        have f3 := hk.r.free 3
        go_wp2_with fail
        refine (cD.out _ (HDY.out.below hk.b hsz)).mono ?_
        rintro e w1 ⟨rfl, hb⟩
        have hk := hk.next hb
        clear hb
        obtain ⟨⟨x0, x1, x2, x3, _⟩, ⟨r0, r1, r2, r3, _⟩⟩ := And.intro hk.x hk.r.box
        have f0 := hk.r.free 0
        have f1 := hk.r.free 1
        have f2 := hk.r.free 2
        have f3 := hk.r.free 3
        go_wp2_with fail
        refine (cS.out _ (HE.out.below hk.b hsz)).mono ?_
        rintro e w1 ⟨rfl, hb⟩
        have hk := hk.next hb
        clear hb
        obtain ⟨⟨x0, x1, x2, x3, _⟩, ⟨r0, r1, r2, r3, _⟩⟩ := And.intro hk.x hk.r.box
        have f0 := hk.r.free 0
        have f1 := hk.r.free 1
        have f2 := hk.r.free 2
        have f3 := hk.r.free 3
        go_wp2
        have hf := hk.fin (0) (0) (0) (0) _ rfl
        refine bodyPost_ret (v := .tuple #[.agg #[.int .i64 (0), .int .i64 (0), .int .i64 (0), .int .i64 (0)], .int .i64 (14)]) (results_ct rfl _ _ _ ⟨w.heap.size + 1, 0, none⟩ _ _ rfl rfl hf.1) rfl ?_
        exact ⟨rfl, hf.2⟩
      · have b1 : decide (d ≤ (k : Int)) = false := decide_eq_false a1
        rcases all with ⟨a2, rfl⟩ | ⟨a2, all⟩
        · have b2 : decide ((g : Int) < (f : Int)) = true := decide_eq_true (by omega)
          have HK := hid (PK.first w d s b m 23)
          go_enter Tryd.func29, Tryd.ntmps29
          go_wp2_with fail
          refine (cF _).mono ?_
          rintro e w1 ⟨rfl, hb⟩
          have hk := HK.out.next hb
          clear hb HK
          obtain ⟨⟨x0, x1, x2, x3, _⟩, ⟨r0, r1, r2, r3, _⟩⟩ := And.intro hk.x hk.r.box
          have f0 := hk.r.free 0
          have f1 := hk.r.free 1
          have f2 := hk.r.free 2
          have f3 := hk.r.free 3
          go_wp2_with fail
          refine (cW _).mono ?_
          rintro e w1 ⟨rfl, hb⟩
          have hk := hk.next hb
          clear hb
          obtain ⟨⟨x0, x1, x2, x3, _⟩, ⟨r0, r1, r2, r3, _⟩⟩ := And.intro hk.x hk.r.box
          have f0 := hk.r.free 0
          have f1 := hk.r.free 1
          have f2 := hk.r.free 2
          have f3 := hk.r.free 3
          go_wp2_with fail
          refine (cD.out _ (HDY.out.below hk.b hsz)).mono ?_
          rintro e w1 ⟨rfl, hb⟩
          have hk := hk.next hb
          clear hb
          obtain ⟨⟨x0, x1, x2, x3, _⟩, ⟨r0, r1, r2, r3, _⟩⟩ := And.intro hk.x hk.r.box
          have f0 := hk.r.free 0
          have f1 := hk.r.free 1
          have f2 := hk.r.free 2
          have f3 := hk.r.free 3
          go_wp2_with fail
          refine (cS.out _ (HE.out.below hk.b hsz)).mono ?_
          rintro e w1 ⟨rfl, hb⟩
          have hk := hk.next hb
          clear hb
          obtain ⟨⟨x0, x1, x2, x3, _⟩, ⟨r0, r1, r2, r3, _⟩⟩ := And.intro hk.x hk.r.box
          have f0 := hk.r.free 0
          have f1 := hk.r.free 1
          have f2 := hk.r.free 2
          have f3 := hk.r.free 3
          go_wp2
          have hf := hk.fin (0) (0) (0) (0) _ rfl
          refine bodyPost_ret (v := .tuple #[.agg #[.int .i64 (0), .int .i64 (0), .int .i64 (0), .int .i64 (0)], .int .i64 (14)]) (results_ct rfl _ _ _ ⟨w.heap.size + 1, 0, none⟩ _ _ rfl rfl hf.1) rfl ?_
          exact ⟨rfl, hf.2⟩
        · have b2 : decide ((g : Int) < (f : Int)) = false := decide_eq_false (by omega)
          rcases all with ⟨a3, rfl⟩ | ⟨a3, all⟩
          · have b3 : decide (s < (g : Int)) = true := decide_eq_true a3
            have HK := hid (PK.first w d s b m 23)
            go_enter Tryd.func29, Tryd.ntmps29
            go_wp2_with fail
            refine (cF _).mono ?_
            rintro e w1 ⟨rfl, hb⟩
            have hk := HK.out.next hb
            clear hb HK
            obtain ⟨⟨x0, x1, x2, x3, _⟩, ⟨r0, r1, r2, r3, _⟩⟩ := And.intro hk.x hk.r.box
            have f0 := hk.r.free 0
            have f1 := hk.r.free 1
            have f2 := hk.r.free 2
            have f3 := hk.r.free 3
            go_wp2_with fail
            refine (cW _).mono ?_
            rintro e w1 ⟨rfl, hb⟩
            have hk := hk.next hb
            clear hb
            obtain ⟨⟨x0, x1, x2, x3, _⟩, ⟨r0, r1, r2, r3, _⟩⟩ := And.intro hk.x hk.r.box
            have f0 := hk.r.free 0
            have f1 := hk.r.free 1
            have f2 := hk.r.free 2
            have f3 := hk.r.free 3
            go_wp2_with fail
            refine (cD.out _ (HDY.out.below hk.b hsz)).mono ?_
            rintro e w1 ⟨rfl, hb⟩
            have hk := hk.next hb
            clear hb
            obtain ⟨⟨x0, x1, x2, x3, _⟩, ⟨r0, r1, r2, r3, _⟩⟩ := And.intro hk.x hk.r.box
            have f0 := hk.r.free 0
            have f1 := hk.r.free 1
            have f2 := hk.r.free 2
            have f3 := hk.r.free 3
            go_wp2_with fail
            refine (cS.out _ (HE.out.below hk.b hsz)).mono ?_
            rintro e w1 ⟨rfl, hb⟩
            have hk := hk.next hb
            clear hb
            obtain ⟨⟨x0, x1, x2, x3, _⟩, ⟨r0, r1, r2, r3, _⟩⟩ := And.intro hk.x hk.r.box
            have f0 := hk.r.free 0
            have f1 := hk.r.free 1
            have f2 := hk.r.free 2
            have f3 := hk.r.free 3
            go_wp2
            have hf := hk.fin (0) (0) (0) (0) _ rfl
            refine bodyPost_ret (v := .tuple #[.agg #[.int .i64 (0), .int .i64 (0), .int .i64 (0), .int .i64 (0)], .int .i64 (14)]) (results_ct rfl _ _ _ ⟨w.heap.size + 1, 0, none⟩ _ _ rfl rfl hf.1) rfl ?_
            exact ⟨rfl, hf.2⟩
          · have b3 : decide (s < (g : Int)) = false := decide_eq_false a3
            rcases all with ⟨a4, rfl⟩ | ⟨rfl, rfl⟩
            · have b4 : (e != 0) = true := by simpa using a4
              have HK := hid (PK.first w d s b m 23)
              go_enter Tryd.func29, Tryd.ntmps29
              go_wp2_with fail
              refine (cF _).mono ?_
              rintro e w1 ⟨rfl, hb⟩
              have hk := HK.out.next hb
              clear hb HK
              obtain ⟨⟨x0, x1, x2, x3, _⟩, ⟨r0, r1, r2, r3, _⟩⟩ := And.intro hk.x hk.r.box
              have f0 := hk.r.free 0
              have f1 := hk.r.free 1
              have f2 := hk.r.free 2
              have f3 := hk.r.free 3
              go_wp2_with fail
              refine (cW _).mono ?_
              rintro e w1 ⟨rfl, hb⟩
              have hk := hk.next hb
              clear hb
              obtain ⟨⟨x0, x1, x2, x3, _⟩, ⟨r0, r1, r2, r3, _⟩⟩ := And.intro hk.x hk.r.box
              have f0 := hk.r.free 0
              have f1 := hk.r.free 1
              have f2 := hk.r.free 2
              have f3 := hk.r.free 3
              go_wp2_with fail
              refine (cD.out _ (HDY.out.below hk.b hsz)).mono ?_
              rintro e w1 ⟨rfl, hb⟩
              have hk := hk.next hb
              clear hb
              obtain ⟨⟨x0, x1, x2, x3, _⟩, ⟨r0, r1, r2, r3, _⟩⟩ := And.intro hk.x hk.r.box
              have f0 := hk.r.free 0
              have f1 := hk.r.free 1
              have f2 := hk.r.free 2
              have f3 := hk.r.free 3
              go_wp2_with fail
              refine (cS.out _ (HE.out.below hk.b hsz)).mono ?_
              rintro e w1 ⟨rfl, hb⟩
              have hk := hk.next hb
              clear hb
              obtain ⟨⟨x0, x1, x2, x3, _⟩, ⟨r0, r1, r2, r3, _⟩⟩ := And.intro hk.x hk.r.box
              have f0 := hk.r.free 0
              have f1 := hk.r.free 1
              have f2 := hk.r.free 2
              have f3 := hk.r.free 3
              go_wp2_with fail
              refine (cP.out _ (HE.out.below hk.b hsz)).mono ?_
              rintro e w1 ⟨rfl, hb⟩
              have hk := hk.next hb
              clear hb
              obtain ⟨⟨x0, x1, x2, x3, _⟩, ⟨r0, r1, r2, r3, _⟩⟩ := And.intro hk.x hk.r.box
              have f0 := hk.r.free 0
              have f1 := hk.r.free 1
              have f2 := hk.r.free 2
              have f3 := hk.r.free 3
              go_wp2
              have hf := hk.fin (0) (0) (0) (0) _ rfl
              refine bodyPost_ret (v := .tuple #[.agg #[.int .i64 (0), .int .i64 (0), .int .i64 (0), .int .i64 (0)], .int .i64 (e)]) (results_ct rfl _ _ _ ⟨w.heap.size + 1, 0, none⟩ _ _ rfl rfl hf.1) rfl ?_
              exact ⟨rfl, hf.2⟩
            · skip
              have HK := hid (PK.first w d s b m 23)
              go_enter Tryd.func29, Tryd.ntmps29
              go_wp2_with fail
              refine (cF _).mono ?_
              rintro e w1 ⟨rfl, hb⟩
              have hk := HK.out.next hb
              clear hb HK
              obtain ⟨⟨x0, x1, x2, x3, _⟩, ⟨r0, r1, r2, r3, _⟩⟩ := And.intro hk.x hk.r.box
              have f0 := hk.r.free 0
              have f1 := hk.r.free 1
              have f2 := hk.r.free 2
              have f3 := hk.r.free 3
              go_wp2_with fail
              refine (cW _).mono ?_
              rintro e w1 ⟨rfl, hb⟩
              have hk := hk.next hb
              clear hb
              obtain ⟨⟨x0, x1, x2, x3, _⟩, ⟨r0, r1, r2, r3, _⟩⟩ := And.intro hk.x hk.r.box
              have f0 := hk.r.free 0
              have f1 := hk.r.free 1
              have f2 := hk.r.free 2
              have f3 := hk.r.free 3
              go_wp2_with fail
              refine (cD.out _ (HDY.out.below hk.b hsz)).mono ?_
              rintro e w1 ⟨rfl, hb⟩
              have hk := hk.next hb
              clear hb
              obtain ⟨⟨x0, x1, x2, x3, _⟩, ⟨r0, r1, r2, r3, _⟩⟩ := And.intro hk.x hk.r.box
              have f0 := hk.r.free 0
              have f1 := hk.r.free 1
              have f2 := hk.r.free 2
              have f3 := hk.r.free 3
              go_wp2_with fail
              refine (cS.out _ (HE.out.below hk.b hsz)).mono ?_
              rintro e w1 ⟨rfl, hb⟩
              have hk := hk.next hb
              clear hb
              obtain ⟨⟨x0, x1, x2, x3, _⟩, ⟨r0, r1, r2, r3, _⟩⟩ := And.intro hk.x hk.r.box
              have f0 := hk.r.free 0
              have f1 := hk.r.free 1
              have f2 := hk.r.free 2
              have f3 := hk.r.free 3
              go_wp2_with fail
              refine (cP.out _ (HE.out.below hk.b hsz)).mono ?_
              rintro e w1 ⟨rfl, hb⟩
              have hk := hk.next hb
              clear hb
              obtain ⟨⟨x0, x1, x2, x3, _⟩, ⟨r0, r1, r2, r3, _⟩⟩ := And.intro hk.x hk.r.box
              have f0 := hk.r.free 0
              have f1 := hk.r.free 1
              have f2 := hk.r.free 2
              have f3 := hk.r.free 3
              go_wp2
              have hf := hk.fin ((v : Int)) ((k : Int)) ((f : Int) - 1) ((g : Int) - (f : Int) + 1) _ rfl
              refine bodyPost_ret (v := .tuple #[.agg #[.int .i64 ((v : Int)), .int .i64 ((k : Int)), .int .i64 ((f : Int) - 1), .int .i64 ((g : Int) - (f : Int) + 1)], .int .i64 (0)]) (results_ct rfl _ _ _ ⟨w.heap.size + 1, 0, none⟩ _ _ rfl rfl hf.1) rfl ?_
              exact ⟨rfl, hf.2⟩
end Go.Proofs.YtibbiddadkinhaaDoor

