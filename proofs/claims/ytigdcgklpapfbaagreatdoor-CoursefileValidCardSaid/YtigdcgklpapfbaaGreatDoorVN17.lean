/-
  Reading a start: readStart of coursefile, and the closure that calls it. Conditions: the variables hold what their text lays; the text is below 2^62 bytes.
-/
import Derived.Test.YtigdcgklpapfbaaGreatDoorVN01
import Derived.Test.YtigdcgklpapfbaaGreatDoorVN02
import Derived.Test.YtigdcgklpapfbaaGreatDoorVN03
import Derived.Test.YtigdcgklpapfbaaGreatDoorVN04
import Derived.Test.YtigdcgklpapfbaaGreatDoorVN05
import Derived.Test.YtigdcgklpapfbaaGreatDoorVN06
import Derived.Test.YtigdcgklpapfbaaGreatDoorVN07
import Derived.Test.YtigdcgklpapfbaaGreatDoorVN08
import Derived.Test.YtigdcgklpapfbaaGreatDoorVN09
import Derived.Test.YtigdcgklpapfbaaGreatDoorVN10
import Derived.Test.YtigdcgklpapfbaaGreatDoorVN11
import Derived.Test.YtigdcgklpapfbaaGreatDoorVN12
import Derived.Test.YtigdcgklpapfbaaGreatDoorVN13
import Derived.Test.YtigdcgklpapfbaaGreatDoorVN14
import Derived.Test.YtigdcgklpapfbaaGreatDoorVN15
import Derived.Test.YtigdcgklpapfbaaGreatDoorVN16
import Derived.Test.YtigdcgklpapfbaaGreatDoorProg
import Derived.WalkKit
import Derived.WalkSpells
import Derived.WalkLawsBesides
import Derived.Lib.Hide
import Derived.Deep.QuietTactic
import Derived.BigQuiet
import Derived.Laws.Rows
import Derived.OwnWalk
import Derived.Lib.BufferWrite
import Derived.Lib.UnsafeStr
import Derived.Laws.IdiomStrings
import Derived.Laws.BytesArg
import Derived.Laws.BytesString
import Derived.Laws.OwnMore
import Derived.Lib.IndexLaws
import Derived.Lib.ItoaNum
import Derived.Lib.Atoi
import Derived.Laws.BitsAllLaws
import Derived.Laws.BitsLemmas
import Derived.Deep.MidRow
import Derived.Shelf.Strings.Builder1
import Derived.Shelf.Strings.Builder2
import Derived.Shelf.Strings.OnBuilder
import Derived.Shelf.Strings.Trim
import Derived.Shelf.Small.Bits
import Derived.Shelf.Small.Strs
import Derived.Shelf.Small.Wraps
import Derived.Shelf.Strings.BuilderF
import Derived.Shelf.Strings.BuilderK
import Derived.Shelf.Strings.Builder2Cap
import Derived.Shelf.Strconv.Atoi
import Derived.Shelf.Strconv.Itoa0
import Derived.Shelf.Strconv.Itoa1
import Derived.Shelf.LaysM
import Derived.Shelf.Strconv.Itoa2
import Derived.Shelf.Strconv.Itoa3
import Derived.Shelf.Strconv.AtoiErrFast
import Derived.Shelf.Strconv.ParseIntEmpty
import Derived.Shelf.Strconv.AtoiFail
import Derived.Shelf.Strconv.Clone
import Derived.Shelf.Strconv.SyntaxError
import Derived.Shelf.LaysC
import Derived.Shelf.Strconv.ToError
import Derived.Shelf.Strconv.AtoiErr
import Derived.Shelf.Strings.Search1
import Derived.Shelf.Strings.Search2
import Derived.Shelf.Strings.Search3
import Derived.Shelf.Strings.Cut
import Derived.Shelf.Strings.Shaped
import Derived.Shelf.Strings.Prefix
import Derived.Shelf.Strings.Runes
import Derived.Shelf.Strings.AsciiSet
import Derived.Shelf.Bits.Mul64
import Derived.Shelf.Strings.Repeat
import Derived.Shelf.Unicode.DecodeSlow
import Derived.Shelf.Strings.BuilderCap
import Derived.Shelf.Slices.Turned
import Derived.Ground.SlgfProg
import Derived.Shelf.SlicesE.IndexFunc
import Derived.Lib.AtoiErrMem
import Derived.Handy
import Derived.RangeFuncNested
import Derived.RangeFuncBound
import Derived.RangeFuncCalls
import Derived.RangeFuncLeaves
import Derived.Shelf.Abstract
import Derived.Shelf.RegionOpen
import Derived.OwnWalkIn
import Derived.Lib.Bytealg
import Derived.Lib.SlTrimSet
import Derived.Shelf.Strings.SlTrimAscii
import Derived.Laws.ResultCell
import Derived.RegionTactic
import Derived.Lib.Repeat
import Derived.Deep.RegionHeld3
import Derived.Lib.SlicesS
import Derived.TacticsInMore
import Derived.LoopNIn
import Derived.LoopIn
import Derived.Deep.DeepCutAuto
import Derived.Lib.Join
import Derived.Laws.Concat
import Derived.Maps.OwnSet
import Derived.Maps.Range
import Derived.Sort.EncStr
import Derived.Deep.RegionLaw
import Derived.Sort.Grow
set_option linter.unusedVariables false
namespace Go.Proofs.YtigdcgklpapfbaaGreatDoor.S10
open Go Go.Proofs Go.RowKit Go.Lib Go.Proofs.YtigdcgklpapfbaaGreatDoor

theorem results_ct2 {fn : Func} {p u : Tmp} {A : TypeId} (h : fn.results = #[.cell p A, .tmp u]) (tmps : Array Value) (P : Program) (w : World) (a : Addr) (va vc : Value)
    (ha : tmps.getD p undef = .pointer (some a)) (hc : tmps.getD u undef = vc)
    (hla : (loadVar A a).run P w = .ok va w) : (results fn tmps).run P w = .ok (.tuple #[va, vc]) w := by
  rw [Array.getD_eq_getD_getElem?] at ha hc
  simp only [results, h]
  simp [Result.andThen, ha, hc, hla, asAddr]
theorem loadStart {w : World} {k : Nat} {v0 v1 : Value} (h0 : w.cell? ⟨k, 0, none⟩ = some v0) (h1 : w.cell? ⟨k, 1, none⟩ = some v1) : (loadVar 74 ⟨k, 0, none⟩).run Tryz.prog w = .ok (.agg #[v0, v1]) w := by
  simp [loadVar, go_sem, h0, h1]
/-- A block of two cells: a start. -/
structure BoxS (w : World) (B : Nat) (v0 v1 : Value) : Prop where
  h : w.heap[B]? = some (.cells #[v0, v1] 74 (0, 0))
theorem BoxS.lt {w : World} {B : Nat} {v0 v1 : Value} (h : BoxS w B v0 v1) : B < w.heap.size := (Array.getElem?_eq_some_iff.1 h.h).1
theorem BoxS.next {w w' : World} {B : Nat} {v0 v1 : Value} (h : BoxS w B v0 v1) (hb : Below w.heap.size w w') : BoxS w' B v0 v1 := ⟨(hb.block B h.lt).trans h.h⟩
theorem BoxS.cells {w : World} {B : Nat} {v0 v1 : Value} (h : BoxS w B v0 v1) : w.cell? ⟨B, 0, none⟩ = some v0 ∧ w.cell? ⟨B, 1, none⟩ = some v1 := by
  refine ⟨?_, ?_⟩ <;> (rw [Lib.cell_of_heap h.h]; rfl)
theorem BoxS.free {w : World} {B : Nat} {v0 v1 : Value} (h : BoxS w B v0 v1) (j : Nat) : w.frozen? ⟨B, j, none⟩ = false := by simp [World.frozen?, h.h]
theorem BoxS.set {w : World} {B : Nat} {v0 v1 : Value} (h : BoxS w B v0 v1) (u0 u1 : Value) : BoxS ((w.setCell ⟨B, 0, none⟩ u0).setCell ⟨B, 1, none⟩ u1) B u0 u1 := by
  have h1 := heap_setCell_same w B 0 _ _ u0 h.h
  have h2 := heap_setCell_same _ B 1 _ _ u1 h1
  refine ⟨?_⟩
  rw [h2]
  rfl
theorem BoxS.new (w : World) (v0 v1 : Value) : BoxS (w.alloc (.cells #[v0, v1] 74)) w.heap.size v0 v1 := ⟨heap_alloc_new w _⟩
theorem setS_below {w W : World} {N B : Nat} (hb : Below N w W) (hN : N ≤ w.heap.size) (hB : N ≤ B) (u0 u1 : Value) : Below N w ((W.setCell ⟨B, 0, none⟩ u0).setCell ⟨B, 1, none⟩ u1) := by
  have g : ∀ (w : World) (o : Nat) (v : Value), w.grownBy (w.setCell ⟨B, o, none⟩ v) (some B) := fun w o v => ⟨by simp [World.setCell], by simp [World.setCell], by simp [World.setCell], by simp [World.setCell], fun k _ hk => Below.heap_setCell w ⟨B, o, none⟩ v k (fun e => hk (by rw [show k = B from e]))⟩
  have h1 := hb.grown (g W 0 u0) (by have := hb.size; omega) (fun k e => by injection e; omega)
  exact h1.grown (g _ 1 u1) (by have := h1.size; omega) (fun k e => by injection e; omega)
/-- What lies while readStart runs: the grid, the result. -/
structure KS (w0 : World) (d s b m : Int) (W : World) : Prop where
  g : Box4 W w0.heap.size d s b m
  r : BoxS W (w0.heap.size + 1) (.int .i64 0) (.int .i64 0)
  b : Below w0.heap.size w0 W
theorem KS.next {w0 W W' : World} {d s b m : Int} (h : KS w0 d s b m W) (k : Below W.heap.size W W') : KS w0 d s b m W' := ⟨h.g.next k h.g.lt, h.r.next k, h.b.trans (k.mono h.b.size)⟩
theorem KS.first (w : World) (d s b m : Int) : KS w d s b m ((w.alloc (.cells #[.int .i64 d, .int .i64 s, .int .i64 b, .int .i64 m] 24)).alloc (.cells #[.int .i64 0, .int .i64 0] 74)) := by
  have hb1 := (Below.refl w.heap.size w).alloc (Nat.le_refl _) (.cells #[.int .i64 d, .int .i64 s, .int .i64 b, .int .i64 m] 24)
  have hG := Box4.new w d s b m 24
  have hs : (w.alloc (.cells #[.int .i64 d, .int .i64 s, .int .i64 b, .int .i64 m] 24)).heap.size = w.heap.size + 1 := by simp
  generalize w.alloc (.cells #[.int .i64 d, .int .i64 s, .int .i64 b, .int .i64 m] 24) = w1 at hb1 hG hs ⊢
  have hb2 := (Below.refl w1.heap.size w1).alloc (Nat.le_refl _) (.cells #[.int .i64 0, .int .i64 0] 74)
  have hS := BoxS.new w1 (.int .i64 0) (.int .i64 0)
  rw [hs] at hS
  exact ⟨hG.next hb2 hG.lt, hS, hb1.trans (hb2.mono (by omega))⟩
/-- What reading a start leaves behind. -/
def StartOut (r : StartD × Int) (w : World) (e : Ending) (w' : World) : Prop := e = .returned (.tuple #[.agg #[.int .i64 r.1.1, .int .i64 r.1.2], .int .i64 r.2]) ∧ Below w.heap.size w w'
theorem start_end {w W : World} {a : Act} {y t c : Int} {K : Nat} {r : StartD × Int} (hp : a.tmps.getD 6 undef = .pointer (some ⟨K, 0, none⟩)) (he : a.tmps.getD 7 undef = .int .i64 c) (hd : a.defers = [])
    (hx : BoxS W K (.int .i64 y) (.int .i64 t)) (hb : Below w.heap.size w W) (hr : r = ((y, t), c)) : bodyPost Tryz.prog Tryz.f125 (StartOut r w) Exit.ret a W := by
  subst hr
  obtain ⟨h0, h1⟩ := hx.cells
  exact bodyPost_ret (v := .tuple #[.agg #[.int .i64 y, .int .i64 t], .int .i64 c]) (results_ct2 rfl _ _ _ ⟨K, 0, none⟩ _ _ hp he (loadStart h0 h1)) hd ⟨rfl, hb⟩
theorem startM_cases (d s b m len : Int) (p : Str) : (smallN (aft 32 p) = 0 ∧ startM d s b m len p = ((0, 0), 4)) ∨ (smallN (aft 32 p) ≠ 0 ∧
    (((timeM d s b m 1 p).2 ≠ 0 ∧ startM d s b m len p = ((0, 0), (timeM d s b m 1 p).2)) ∨ ((timeM d s b m 1 p).2 = 0 ∧
      ((fitsM d s b m 1 1 (timeM d s b m 1 p).1.2.1 (timeM d s b m 1 p).1.2.2.1 len ≠ 0 ∧ startM d s b m len p = ((0, 0), 14)) ∨
       (fitsM d s b m 1 1 (timeM d s b m 1 p).1.2.1 (timeM d s b m 1 p).1.2.2.1 len = 0 ∧ startM d s b m len p = (((timeM d s b m 1 p).1.2.1, (timeM d s b m 1 p).1.2.2.1), 0)))))) := by
  unfold startM
  by_cases h1 : smallN (aft 32 p) = 0
  · exact .inl ⟨h1, if_pos h1⟩
  · refine .inr ⟨h1, ?_⟩
    rw [if_neg h1]
    by_cases h2 : (timeM d s b m 1 p).2 = 0
    · refine .inr ⟨h2, ?_⟩
      rw [if_neg (by simpa using h2)]
      by_cases h3 : fitsM d s b m 1 1 (timeM d s b m 1 p).1.2.1 (timeM d s b m 1 p).1.2.2.1 len = 0
      · exact .inr ⟨h3, if_neg (by simpa using h3)⟩
      · exact .inl ⟨h3, if_pos h3⟩
    · exact .inl ⟨h2, if_pos h2⟩
set_option maxHeartbeats 8000000 in
set_option maxRecDepth 100000 in
theorem readStart_any (d s b m len : Int) (x : ByteArray) (hz : x.size ≤ 4611686018427387904) (w : World) (hE : Env7 w) :
    Calls Tryz.prog 125 #[.string x, .int .i64 len, .agg #[.int .i64 d, .int .i64 s, .int .i64 b, .int .i64 m]] w (StartOut (startM d s b m len (lst x)) w) := by
  have cC := fun w => cut_any x 32 hz w
  have cR := fun w h => read_any (ba (aft 32 (lst x))) (aft_small 32 hz) w h
  have cP := fun w h h2 => tparse_any d s b m 1 x hz w h h2
  have hst := timeM_start d s b m 1 (lst x)
  have hcs := startM_cases d s b m len (lst x)
  unfold CutOut at cC
  unfold NumOut at cR
  unfold TimeOut at cP
  rw [lst_ba] at cR
  obtain ⟨O, hO⟩ : ∃ O, startM d s b m len (lst x) = O := ⟨_, rfl⟩
  rw [hO] at hcs ⊢
  obtain ⟨⟨⟨t0, t1, t2, t3⟩, te⟩, hT⟩ : ∃ R, timeM d s b m 1 (lst x) = R := ⟨_, rfl⟩
  rw [hT] at hcs cP hst
  obtain ⟨N, hN⟩ : ∃ N, smallN (aft 32 (lst x)) = N := ⟨_, rfl⟩
  rw [hN] at hcs cR
  obtain ⟨X1, hX1⟩ : ∃ X, ba (bef 32 (lst x)) = X := ⟨_, rfl⟩
  obtain ⟨X2, hX2⟩ : ∃ X, ba (aft 32 (lst x)) = X := ⟨_, rfl⟩
  obtain ⟨X3, hX3⟩ : ∃ X, has 32 (lst x) = X := ⟨_, rfl⟩
  rw [hX1, hX2, hX3] at cC
  rw [hX2] at cR
  dsimp only at hcs cP hst
  have cI := fun w => isStart_any t1 t2 len d s b m hst w
  unfold Says at cI
  obtain ⟨F, hF⟩ : ∃ F, fitsM d s b m 1 1 t1 t2 len = F := ⟨_, rfl⟩
  rw [hF] at hcs cI
  have hk := KS.first w d s b m
  have HK := hid hk
  have HE := hid (fun (w' : World) (hb : Below w.heap.size w w') => hE.below hb (Nat.le_refl _))
  have CC := hid cC
  have CR := hid cR
  have CP := hid cP
  have CI := hid cI
  clear cC cR cP cI hO hT hN hX1 hX2 hX3 hF hk hE hst hz
  rcases hcs with ⟨h1, rfl⟩ | ⟨h1, hcs⟩
  · have CR' := CR.out
    rw [decide_eq_false (fun k => k h1)] at CR'
    have CR2 := hid CR'
    clear CR CR' h1 CP CI
    go_enter Tryz.func125, Tryz.ntmps125
    go_wp2_with fail
    generalize (w.alloc (.cells #[.int .i64 d, .int .i64 s, .int .i64 b, .int .i64 m] 24)).alloc (.cells #[.int .i64 0, .int .i64 0] 74) = w1 at HK ⊢
    refine (CC.out w1).mono ?_
    rintro e w2 ⟨rfl, q2, rfl⟩
    have HK2 := hid (HK.out.next (S3.below_drewN (Below.refl _ _) q2))
    go_wp2_with fail
    refine (CR2.out _ (HE.out _ HK2.out.b).e).mono ?_
    rintro e w3 ⟨rfl, hb⟩
    have hk3 := HK2.out.next hb
    have f0 := hk3.r.free 0
    have f1 := hk3.r.free 1
    obtain ⟨c0, c1⟩ := hk3.r.cells
    have HK3 := hid hk3
    clear hb hk3
    go_wp2
    refine start_end (K := w.heap.size + 1) ?_ ?_ ?_ (HK3.out.r.set _ _) (setS_below HK3.out.b (Nat.le_refl _) (by omega) _ _) rfl
    all_goals rfl
  · have CR' := CR.out
    rw [decide_eq_true h1] at CR'
    have CR2 := hid CR'
    clear CR CR' h1
    go_enter Tryz.func125, Tryz.ntmps125
    go_wp2_with fail
    generalize (w.alloc (.cells #[.int .i64 d, .int .i64 s, .int .i64 b, .int .i64 m] 24)).alloc (.cells #[.int .i64 0, .int .i64 0] 74) = w1 at HK ⊢
    refine (CC.out w1).mono ?_
    rintro e w2 ⟨rfl, q2, rfl⟩
    have HK2 := hid (HK.out.next (S3.below_drewN (Below.refl _ _) q2))
    go_wp2_with fail
    refine (CR2.out _ (HE.out _ HK2.out.b).e).mono ?_
    rintro e w3 ⟨rfl, hb⟩
    have hk3 := HK2.out.next hb
    obtain ⟨g0, g1, g2, g3, gl⟩ := hk3.g
    have HK3 := hid hk3
    clear hb hk3
    go_wp2_with fail
    refine (CP.out _ (HE.out _ HK3.out.b).e (HE.out _ HK3.out.b).d).mono ?_
    rintro e w4 ⟨rfl, hb⟩
    have hk4 := HK3.out.next hb
    have HK4 := hid hk4
    clear hb hk4 g0 g1 g2 g3 gl
    have hb5 := (Below.refl w4.heap.size w4).alloc (Nat.le_refl _) (.cells #[.int .i64 t0, .int .i64 t1, .int .i64 t2, .int .i64 t3] 66)
    have hT := Box4.new w4 t0 t1 t2 t3 66
    have hk5 := HK4.out.next hb5
    obtain ⟨y0, y1, y2, y3, yl⟩ := hT
    have HK5 := hid hk5
    have HB5 := hid hb5
    clear hk5 hb5
    have hsz : (w4.alloc (.cells #[.int .i64 t0, .int .i64 t1, .int .i64 t2, .int .i64 t3] 66)).heap.size = w4.heap.size + 1 := by simp
    have hk6 := HK5.out.next ((Below.refl _ _).alloc (Nat.le_refl _) (.cells #[.int .i64 t1, .int .i64 t2] 74))
    have hS6 := BoxS.new (w4.alloc (.cells #[.int .i64 t0, .int .i64 t1, .int .i64 t2, .int .i64 t3] 66)) (.int .i64 t1) (.int .i64 t2)
    rw [hsz] at hS6
    obtain ⟨g0, g1, g2, g3, gl⟩ := hk6.g
    obtain ⟨z0, z1⟩ := hS6.cells
    have HK6 := hid hk6
    have HS6 := hid hS6
    rcases hcs with ⟨h2, rfl⟩ | ⟨h2, hcs⟩
    · have e1 : (te != 0) = true := by simpa using h2
      have e2 : (te == 0) = false := by simpa using h2
      have f0 := hk6.r.free 0
      have f1 := hk6.r.free 1
      obtain ⟨c0, c1⟩ := hk6.r.cells
      clear hk6 hS6 hsz h2 g0 g1 g2 g3 gl z0 z1 CI
      go_wp2
      refine start_end (K := w.heap.size + 1) ?_ ?_ ?_ (HK6.out.r.set _ _) (setS_below HK6.out.b (Nat.le_refl _) (by omega) _ _) rfl
      all_goals rfl
    · subst h2
      rcases hcs with ⟨h3, rfl⟩ | ⟨h3, rfl⟩
      · have CI' := CI.out
        rw [decide_eq_false h3] at CI'
        have CI2 := hid CI'
        clear CI CI' h3 hk6 hS6 hsz
        go_wp2_with fail
        generalize (w4.alloc (.cells #[.int .i64 t0, .int .i64 t1, .int .i64 t2, .int .i64 t3] 66)).alloc (.cells #[.int .i64 t1, .int .i64 t2] 74) = w6 at HK6 HS6 g0 g1 g2 g3 gl z0 z1 ⊢
        refine (CI2.out w6).mono ?_
        rintro e w7 ⟨rfl, hb⟩
        have hk7 := HK6.out.next hb
        have HK7 := hid hk7
        have f0 := hk7.r.free 0
        have f1 := hk7.r.free 1
        obtain ⟨c0, c1⟩ := hk7.r.cells
        clear hb hk7 g0 g1 g2 g3 gl z0 z1
        go_wp2
        refine start_end (K := w.heap.size + 1) ?_ ?_ ?_ (HK7.out.r.set _ _) (setS_below HK7.out.b (Nat.le_refl _) (by omega) _ _) rfl
        all_goals rfl
      · have CI' := CI.out
        rw [decide_eq_true h3] at CI'
        have CI2 := hid CI'
        clear CI CI' h3 hk6 hS6 hsz
        go_wp2_with fail
        generalize (w4.alloc (.cells #[.int .i64 t0, .int .i64 t1, .int .i64 t2, .int .i64 t3] 66)).alloc (.cells #[.int .i64 t1, .int .i64 t2] 74) = w6 at HK6 HS6 g0 g1 g2 g3 gl z0 z1 ⊢
        refine (CI2.out w6).mono ?_
        rintro e w7 ⟨rfl, hb⟩
        have hk7 := HK6.out.next hb
        have HK7 := hid hk7
        have f0 := hk7.r.free 0
        have f1 := hk7.r.free 1
        obtain ⟨c0, c1⟩ := hk7.r.cells
        obtain ⟨z0', z1'⟩ := (HS6.out.next hb).cells
        clear hb hk7 g0 g1 g2 g3 gl z0 z1
        go_wp2
        refine start_end (K := w.heap.size + 1) ?_ ?_ ?_ (HK7.out.r.set _ _) (setS_below HK7.out.b (Nat.le_refl _) (by omega) _ _) rfl
        all_goals rfl
set_option maxHeartbeats 4000000 in
set_option maxRecDepth 100000 in
theorem readOne_any (K G : Nat) (d s b m len : Int) (y : ByteArray) (hy : y.size ≤ 4611686018427387904) (W : World) (hK : W.cell? ⟨K, 0, none⟩ = some (.int .i64 len)) (hG : Box4 W G d s b m) (hKl : K < W.heap.size) (hE : Env7 W) :
    Calls Tryz.prog 124 (#[.string y] ++ #[.pointer (some ⟨K, 0, none⟩), .pointer (some ⟨G, 0, none⟩)]) W fun e w' => (∃ r, r = startM d s b m len (lst y) ∧ e = .returned (.tuple #[.agg #[.int .i64 r.1.1, .int .i64 r.1.2], .int .i64 r.2])) ∧ Below W.heap.size W w' := by
  have hb0 := (Below.refl W.heap.size W).alloc (Nat.le_refl _) (.cells #[.int .i64 0, .int .i64 0] 74)
  have cS := readStart_any d s b m len y hy (W.alloc (.cells #[.int .i64 0, .int .i64 0] 74)) (hE.below hb0 (Nat.le_refl _))
  have hS0 := BoxS.new W (.int .i64 0) (.int .i64 0)
  obtain ⟨g0, g1, g2, g3, gl⟩ := hG.next hb0 hG.lt
  have k0 : (W.alloc (.cells #[.int .i64 0, .int .i64 0] 74)).cell? ⟨K, 0, none⟩ = some (.int .i64 len) := (hb0.cell (p := ⟨K, 0, none⟩) hKl).trans hK
  unfold StartOut at cS
  obtain ⟨⟨⟨u, v⟩, c⟩, hR⟩ : ∃ R, startM d s b m len (lst y) = R := ⟨_, rfl⟩
  rw [hR] at cS ⊢
  dsimp only at cS ⊢
  have CS := hid cS
  have HB0 := hid hb0
  have HS0 := hid hS0
  clear cS hR hE hb0 hS0 hG hK hy hKl
  simp only [List.append_toArray, List.cons_append, List.nil_append, exists_eq_left]
  go_enter Tryz.func124, Tryz.ntmps124
  go_wp2_with fail
  generalize W.alloc (.cells #[.int .i64 0, .int .i64 0] 74) = w1 at CS HB0 HS0 ⊢
  refine CS.out.mono ?_
  rintro e w2 ⟨rfl, hb⟩
  have hs2 := HS0.out.next hb
  have HS2 := hid hs2
  have HB2 := hid (HB0.out.trans (hb.mono HB0.out.size))
  have f0 := hs2.free 0
  have f1 := hs2.free 1
  obtain ⟨c0, c1⟩ := hs2.cells
  clear hb hs2 g0 g1 g2 g3 gl k0
  go_wp2
  obtain ⟨r0, r1⟩ := (HS2.out.set (.int .i64 u) (.int .i64 v)).cells
  refine bodyPost_ret (v := .tuple #[.agg #[.int .i64 u, .int .i64 v], .int .i64 c]) (results_ct2 rfl _ _ _ ⟨W.heap.size, 0, none⟩ _ _ rfl rfl (loadStart r0 r1)) rfl ⟨rfl, setS_below HB2.out (Nat.le_refl _) (Nat.le_refl _) _ _⟩
end Go.Proofs.YtigdcgklpapfbaaGreatDoor.S10

