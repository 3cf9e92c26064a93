/-
  A way out of a record by the specification: one. Conditions: the record's fields, the ways and the names lie in memory.
-/
import Derived.Test.YtocmbifljkcmeaaDoorTN01
import Derived.Test.YtocmbifljkcmeaaDoorTN02
import Derived.Test.YtocmbifljkcmeaaDoorTN03
import Derived.Test.YtocmbifljkcmeaaDoorTN04
import Derived.Test.YtocmbifljkcmeaaDoorTN07
import Derived.Test.YtocmbifljkcmeaaDoorTN10
import Derived.Test.YtocmbifljkcmeaaDoorProg
import Derived.WalkKit
import Derived.WalkSpells
import Derived.WalkLawsBesides
import Derived.Lib.Hide
import Derived.Deep.QuietTactic
import Derived.BigQuiet
import Derived.Laws.Rows
import Derived.OwnWalk
import Derived.Lib.BufferWrite
import Derived.Lib.UnsafeStr
import Derived.Laws.IdiomStrings
import Derived.Laws.BytesArg
import Derived.Laws.BytesString
import Derived.Laws.OwnMore
import Derived.Lib.IndexLaws
import Derived.Lib.ItoaNum
import Derived.Lib.Atoi
import Derived.Lib.Bytealg
import Derived.Handy
import Derived.Laws.ResultCell
import Derived.RegionTactic
import Derived.Deep.DeepCutAuto
import Derived.Deep.CutBlock
import Derived.Deep.RegionHeld3
import Derived.Deep.RegionLaw
import Derived.Deep.RegionWith
import Derived.Deep.AppendLies
import Derived.Maps.AppendAt
import Derived.StillTailTactics
import Derived.Shelf.Abstract
import Derived.Lib.SlTrimSet
import Derived.Shelf.Strconv.Atoi
import Derived.Shelf.Strconv.Itoa0
import Derived.Shelf.Strconv.Itoa1
import Derived.Shelf.LaysM
import Derived.Shelf.Strconv.Itoa2
import Derived.Shelf.Strconv.Itoa3
import Derived.Shelf.Strconv.AtoiErrFast
import Derived.Shelf.Strconv.ParseIntEmpty
import Derived.Shelf.Strconv.AtoiFail
import Derived.Shelf.Strconv.Clone
import Derived.Shelf.Strconv.SyntaxError
import Derived.Shelf.LaysC
import Derived.Shelf.Strconv.ToError
import Derived.Shelf.Strconv.AtoiErr
import Derived.Shelf.Bits.Mul64
import Derived.Shelf.Slices.Turned
import Derived.Lib.AtoiErrMem
import Derived.ArgAppend
import Derived.Deep.DeepAppendRoom
set_option linter.unusedVariables false
namespace Go.Proofs.YtocmbifljkcmeaaDoor
open Go Go.Proofs Go.RowKit Go.Lib

/-- What one leaves behind. -/
def OneOut8 (o : WayD × Int × Int) (w : World) (e : Ending) (w' : World) : Prop :=
  e = .returned (.tuple #[wayV o.1, .int .i64 o.2.1, .int .i64 o.2.2]) ∧ Below w.heap.size w w'
theorem results_ctt9 {fn : Func} {p u v : Tmp} {A : TypeId} (h : fn.results = #[.cell p A, .tmp u, .tmp v]) (tmps : Array Value) (P : Program) (w : World) (a : Addr) (va vc vd : Value)
    (ha : tmps.getD p undef = .pointer (some a)) (hc : tmps.getD u undef = vc) (hd : tmps.getD v undef = vd)
    (hla : (loadVar A a).run P w = .ok va w) : (results fn tmps).run P w = .ok (.tuple #[va, vc, vd]) w := by
  rw [Array.getD_eq_getD_getElem?] at ha hc hd
  simp only [results, h]
  simp [Result.andThen, ha, hc, hd, hla, asAddr]
theorem loadRWay {w : World} {k : Nat} {v0 v1 v2 : Value} (h : Box3 w k 74 v0 v1 v2) : (loadVar 74 ⟨k, 0, none⟩).run Tryd.prog w = .ok (.agg #[v0, v1, v2]) w := by
  have h0 := h.c0
  have h1 := h.c1
  have h2 := h.c2
  simp [loadVar, go_sem, h0, h1, h2]
theorem one8_end {w W : World} {a : Act} {r : WayD} {k e : Int} {o : WayD × Int × Int} (hp : a.tmps.getD 6 undef = .pointer (some ⟨w.heap.size + 1, 0, none⟩)) (hc : a.tmps.getD 7 undef = .int .i64 k) (he : a.tmps.getD 8 undef = .int .i64 e) (hd : a.defers = [])
    (hx : WayBox W (w.heap.size + 1) 74 r) (hb : Below w.heap.size w W) (ho : o = (r, k, e)) :
    bodyPost Tryd.prog Tryd.f40 (OneOut8 o w) Exit.ret a W := by
  subst ho
  exact bodyPost_ret (v := .tuple #[wayV r, .int .i64 k, .int .i64 e]) (results_ctt9 rfl _ _ _ ⟨w.heap.size + 1, 0, none⟩ _ _ _ hp hc he (loadRWay hx)) hd ⟨rfl, hb⟩
/-- The boxes of one: the result's, the way's. -/
structure OK8 (w0 : World) (X0 X1 : ByteArray) (n : Int) (w : World) : Prop where
  r : Box3 w (w0.heap.size + 1) 74 (.string ⟨#[]⟩) (.string ⟨#[]⟩) (.int .i64 0)
  t : Box3 w (w0.heap.size + 2) 74 (.string X0) (.string X1) (.int .i64 n)
  b : Below w0.heap.size w0 w
theorem OK8.next {w0 w w' : World} {X0 X1 : ByteArray} {n : Int} (h : OK8 w0 X0 X1 n w) (k : Below w.heap.size w w') : OK8 w0 X0 X1 n w' := ⟨h.r.next k, h.t.next k, h.b.trans (k.mono h.b.size)⟩
theorem OK8.num {w0 w : World} {X0 X1 : ByteArray} {n : Int} (h : OK8 w0 X0 X1 n w) (m : Int) : OK8 w0 X0 X1 m (w.setCell ⟨w0.heap.size + 2, 2, none⟩ (.int .i64 m)) :=
  ⟨h.r.kept (heap_setCell_other _ _ _ _ (by show w0.heap.size + 1 ≠ w0.heap.size + 2; omega)), h.t.put2 _, h.b.setCell (p := ⟨w0.heap.size + 2, 2, none⟩) (by show w0.heap.size ≤ w0.heap.size + 2; omega) _⟩
/-- The world behind the store of the result. -/
theorem OK8.out {w0 w : World} {X0 X1 : ByteArray} {n : Int} (h : OK8 w0 X0 X1 n w) (u0 u1 u2 : Value) : Box3 (((w.setCell ⟨w0.heap.size + 1, 0, none⟩ u0).setCell ⟨w0.heap.size + 1, 1, none⟩ u1).setCell ⟨w0.heap.size + 1, 2, none⟩ u2) (w0.heap.size + 1) 74 u0 u1 u2 ∧ Below w0.heap.size w0 (((w.setCell ⟨w0.heap.size + 1, 0, none⟩ u0).setCell ⟨w0.heap.size + 1, 1, none⟩ u1).setCell ⟨w0.heap.size + 1, 2, none⟩ u2) :=
  ⟨h.r.set _ _ _, ((h.b.setCell (p := ⟨w0.heap.size + 1, 0, none⟩) (by show w0.heap.size ≤ w0.heap.size + 1; omega) _).setCell (p := ⟨w0.heap.size + 1, 1, none⟩) (by show w0.heap.size ≤ w0.heap.size + 1; omega) _).setCell (p := ⟨w0.heap.size + 1, 2, none⟩) (by show w0.heap.size ≤ w0.heap.size + 1; omega) _⟩
set_option maxHeartbeats 16000000 in
set_option maxRecDepth 100000 in
theorem one8_any (line : Int) (A : Option Addr) (fs : List FieldD) (c : Nat) (Aw : Option Addr) (ws : List WayD) (cw : Nat) (Ab : Option Addr) (bs : List Str) (cb : Nat) (w : World)
    (hF : FieldsIn w (fun b => b < w.heap.size) A fs) (hW : WaysIn w (fun b => b < w.heap.size) Aw ws) (hS : S3.StrsIn w (fun b => b < w.heap.size) Ab bs) (hfs : fs.length ≤ 9223372036854775807) (hws : ws.length ≤ 1073741824) (hbs : bs.length ≤ 8) :
    Calls Tryd.prog 40 #[.agg #[.int .i64 line, .slice A fs.length c], .slice Aw ws.length cw, .slice Ab bs.length cb] w (OneOut8 (oneR (ws, bs) fs) w) := by
  have hb1 := (Below.refl w.heap.size w).alloc (Nat.le_refl _) (.cells #[.int .i64 line, .slice A fs.length c] 41)
  have hx1 := heap_alloc_new w (.cells #[.int .i64 line, .slice A fs.length c] 41)
  have hs1 : (w.alloc (.cells #[.int .i64 line, .slice A fs.length c] 41)).heap.size = w.heap.size + 1 := by simp
  obtain ⟨w1, hw1⟩ : ∃ W, w.alloc (.cells #[.int .i64 line, .slice A fs.length c] 41) = W := ⟨_, rfl⟩
  rw [hw1] at hb1 hx1 hs1
  have hb2 := (Below.refl w1.heap.size w1).alloc (Nat.le_refl _) (.cells #[.string ⟨#[]⟩, .string ⟨#[]⟩, .int .i64 0] 74)
  have hx2 := Box3.new w1 74 (.string ⟨#[]⟩) (.string ⟨#[]⟩) (.int .i64 0)
  have hs2 : (w1.alloc (.cells #[.string ⟨#[]⟩, .string ⟨#[]⟩, .int .i64 0] 74)).heap.size = w1.heap.size + 1 := by simp
  obtain ⟨w2, hw2⟩ : ∃ W, w1.alloc (.cells #[.string ⟨#[]⟩, .string ⟨#[]⟩, .int .i64 0] 74) = W := ⟨_, rfl⟩
  rw [hw2] at hb2 hx2 hs2
  have hb12 := hb1.trans (hb2.mono hb1.size)
  have hr2 := (hb2.block w.heap.size (by omega)).trans hx1
  have y1 : w2.cell? ⟨w.heap.size, 1, none⟩ = some (.slice A fs.length c) := by rw [Lib.cell_of_heap hr2]; rfl
  rw [hs1] at hx2
  have HB2 := hid hb12
  have HX2 := hid hx2
  have HS1 := hid hs1
  have HS2 : Hid (w2.heap.size = w.heap.size + 2) := hid (by omega)
  have HF := hid hF
  have HWS := hid hW
  have HSS := hid hS
  obtain ⟨O, hO⟩ : ∃ O, oneR (ws, bs) fs = O := ⟨_, rfl⟩
  rw [hO]
  obtain ⟨F, hFl⟩ : ∃ n, fs.length = n := ⟨_, rfl⟩
  have HFL := hid hFl
  rw [hFl] at y1 hw1
  rw [hFl]
  clear hF hW hS hb1 hx1 hb2 hx2 hb12 hr2 hs1 hs2
  by_cases h3 : F = 3
  · subst h3
    have hn3 : (((3 : Nat) : Int) != 3) = false := rfl
    match fs, HFL.out with
    | [f0, f1, f2], _ =>
    obtain ⟨b, off, rfl, hbl, c0, _, _⟩ := HF.out.at_ (k := 0) (by simp)
    obtain ⟨_, _, e1, _, c1, _, _⟩ := HF.out.at_ (k := 1) (by simp)
    obtain ⟨_, _, e2, _, c2, _, _⟩ := HF.out.at_ (k := 2) (by simp)
    injection e1 with e1
    injection e1 with e1 e1'
    subst e1
    subst e1'
    injection e2 with e2
    injection e2 with e2 e2'
    subst e2
    subst e2'
    simp only [List.getElem_cons_zero, List.getElem_cons_succ, Nat.zero_mul, Nat.add_zero, Nat.one_mul] at c0 c1 c2
    have kc : ∀ p : Nat, w2.cell? ⟨b, p, none⟩ = w.cell? ⟨b, p, none⟩ := fun p => HB2.out.cell (p := ⟨b, p, none⟩) hbl
    rw [← kc] at c0 c1 c2
    have c2' : w2.cell? ⟨b, off + 6, none⟩ = some (.string (ba f2.1)) := c2
    obtain ⟨X0, hX0⟩ : ∃ z, ba f0.1 = z := ⟨_, rfl⟩
    obtain ⟨X1, hX1⟩ : ∃ z, ba f1.1 = z := ⟨_, rfl⟩
    obtain ⟨X2, hX2⟩ : ∃ z, ba f2.1 = z := ⟨_, rfl⟩
    rw [hX0] at c0
    rw [hX1] at c1
    rw [hX2] at c2'
    have HX0 := hid hX0
    have HX1 := hid hX1
    have HX2' := hid hX2
    clear c2 kc hX0 hX1 hX2 hFl
    go_enter Tryd.func40, Tryd.ntmps40
    go_upto_region 1 with fail
    (try rw [hw1])
    (try rw [hw2])
    (try rw [HS1.out])
    clear hw1 hw2
    have k0 := Lib.cell?_alloc_some (.cells #[.string ⟨#[]⟩, .string ⟨#[]⟩, .int .i64 0] 74) c0
    have k1 := Lib.cell?_alloc_some (.cells #[.string ⟨#[]⟩, .string ⟨#[]⟩, .int .i64 0] 74) c1
    go_wp2_with fail
    go_region
    have hk0 : OK8 w X0 X1 0 ((w2.alloc (.cells #[.string X0, .string X1, .int .i64 0] 74)).drew) := by
      have hb := (Below.refl w2.heap.size w2).alloc (Nat.le_refl _) (.cells #[.string X0, .string X1, .int .i64 0] 74)
      have hx := Box3.new w2 74 (.string X0) (.string X1) (.int .i64 0)
      rw [HS2.out] at hx
      exact ⟨(HX2.out.next hb).kept rfl, hx.kept rfl, (HB2.out.trans (hb.mono HB2.out.size)).drew⟩
    have hc2k : ((w2.alloc (.cells #[.string X0, .string X1, .int .i64 0] 74)).drew).cell? ⟨b, off + 6, none⟩ = some (.string X2) := Lib.cell?_alloc_some _ c2'
    rw [HS2.out]
    generalize (w2.alloc (.cells #[.string X0, .string X1, .int .i64 0] 74)).drew = wk at hk0 hc2k ⊢
    have HK := hid hk0
    clear hk0 k0 k1 c0 c1 c2'
    have hOR : O = (if S3.validC f0.1 = false then ((f0.1, f1.1, 0), 0, 10) else if S3.validC f1.1 = false then ((f0.1, f1.1, 0), 1, 10) else if (numT f2.1).2 = false then ((f0.1, f1.1, 0), 2, 4) else if 24 < (numT f2.1).1 then ((f0.1, f1.1, 0), 2, 3)
      else if f0.1 = f1.1 then ((f0.1, f1.1, (numT f2.1).1), -1, 1) else if dupW ws (f0.1, f1.1, (numT f2.1).1) = true then ((f0.1, f1.1, (numT f2.1).1), -1, 11) else if 8 < bs.length + moreM bs (f0.1, f1.1, (numT f2.1).1) then ((f0.1, f1.1, (numT f2.1).1), -1, 2) else ((f0.1, f1.1, (numT f2.1).1), 0, 0)) := by
      rw [← hO]
      unfold oneR
      rw [if_neg (by simp)]
      rfl
    have HOR := hid hOR
    have hxl0 : X0.data.toList = f0.1 := by rw [← HX0.out]; rfl
    have hxl1 : X1.data.toList = f1.1 := by rw [← HX1.out]; rfl
    have hxl2 : lst X2 = f2.1 := by rw [← HX2'.out, lst_ba]
    have cV0 := fun w => S3.refValid_any X0 w
    have cV1 := fun w => S3.refValid_any X1 w
    have cD := fun w => digits2_any X2 w
    rw [hxl0] at cV0
    rw [hxl1] at cV1
    rw [hxl2] at cD
    obtain ⟨V0, hV0⟩ : ∃ v, S3.validC f0.1 = v := ⟨_, rfl⟩
    obtain ⟨V1, hV1⟩ : ∃ v, S3.validC f1.1 = v := ⟨_, rfl⟩
    obtain ⟨⟨nn, ok⟩, hNN⟩ : ∃ v, numT f2.1 = v := ⟨_, rfl⟩
    have hrng := numT_rng f2.1
    rw [hNN] at hrng
    rw [hV0] at cV0
    rw [hV1] at cV1
    rw [hNN] at cD
    dsimp only at cD hrng
    have CV0 := hid cV0
    have CV1 := hid cV1
    have CD := hid cD
    have HV0 := hid hV0
    have HV1 := hid hV1
    have HNN := hid hNN
    clear hO hOR hxl0 hxl1 hxl2 cV0 cV1 cD hV0 hV1 hNN
    have q0 := HK.out.t.c0
    go_wp2_with fail
    refine (CV0.out _).mono ?_
    rintro e w3 ⟨rfl, rfl⟩
    clear q0
    cases V0 with
    | false =>
      have z0 := HK.out.r.c0
      have z1 := HK.out.r.c1
      have z2 := HK.out.r.c2
      have q0 := HK.out.t.c0
      have q1 := HK.out.t.c1
      have q2 := HK.out.t.c2
      have g0 := HK.out.r.free 0
      have g1 := HK.out.r.free 1
      have g2 := HK.out.r.free 2
      have HOX : Hid (O = ((f0.1, f1.1, 0), 0, 10)) := hid (by rw [HOR.out, if_pos HV0.out])
      go_wp2
      obtain ⟨m1, m2⟩ := HK.out.out (.string X0) (.string X1) (.int .i64 0)
      refine one8_end (r := (f0.1, f1.1, 0)) ?_ ?_ ?_ ?_ (by show Box3 _ _ _ (.string (ba f0.1)) (.string (ba f1.1)) _; rw [HX0.out, HX1.out]; exact m1) m2 HOX.out
      all_goals rfl
    | true =>
      have q1 := HK.out.t.c1
      go_wp2_with fail
      refine (CV1.out _).mono ?_
      rintro e w3 ⟨rfl, rfl⟩
      clear q1
      cases V1 with
      | false =>
        have z0 := HK.out.r.c0
        have z1 := HK.out.r.c1
        have z2 := HK.out.r.c2
        have q0 := HK.out.t.c0
        have q1 := HK.out.t.c1
        have q2 := HK.out.t.c2
        have g0 := HK.out.r.free 0
        have g1 := HK.out.r.free 1
        have g2 := HK.out.r.free 2
        have HOX : Hid (O = ((f0.1, f1.1, 0), 1, 10)) := hid (by rw [HOR.out, if_neg (by rw [HV0.out]; simp), if_pos HV1.out])
        go_wp2
        obtain ⟨m1, m2⟩ := HK.out.out (.string X0) (.string X1) (.int .i64 0)
        refine one8_end (r := (f0.1, f1.1, 0)) ?_ ?_ ?_ ?_ (by show Box3 _ _ _ (.string (ba f0.1)) (.string (ba f1.1)) _; rw [HX0.out, HX1.out]; exact m1) m2 HOX.out
        all_goals rfl
      | true =>
        go_wp2_with fail
        refine (CD.out _).mono ?_
        rintro e w3 ⟨rfl, rfl⟩
        clear hc2k
        cases ok with
        | false =>
          have z0 := HK.out.r.c0
          have z1 := HK.out.r.c1
          have z2 := HK.out.r.c2
          have q0 := HK.out.t.c0
          have q1 := HK.out.t.c1
          have q2 := HK.out.t.c2
          have g0 := HK.out.r.free 0
          have g1 := HK.out.r.free 1
          have g2 := HK.out.r.free 2
          have HOX : Hid (O = ((f0.1, f1.1, 0), 2, 4)) := hid (by rw [HOR.out, if_neg (by rw [HV0.out]; simp), if_neg (by rw [HV1.out]; simp), if_pos (by rw [HNN.out])])
          go_wp2
          obtain ⟨m1, m2⟩ := HK.out.out (.string X0) (.string X1) (.int .i64 0)
          refine one8_end (r := (f0.1, f1.1, 0)) ?_ ?_ ?_ ?_ (by show Box3 _ _ _ (.string (ba f0.1)) (.string (ba f1.1)) _; rw [HX0.out, HX1.out]; exact m1) m2 HOX.out
          all_goals rfl
        | true =>
          by_cases h24 : 24 < nn
          · have HN24 := hid h24
            have z0 := HK.out.r.c0
            have z1 := HK.out.r.c1
            have z2 := HK.out.r.c2
            have q0 := HK.out.t.c0
            have q1 := HK.out.t.c1
            have q2 := HK.out.t.c2
            have g0 := HK.out.r.free 0
            have g1 := HK.out.r.free 1
            have g2 := HK.out.r.free 2
            have HOX : Hid (O = ((f0.1, f1.1, 0), 2, 3)) := hid (by rw [HOR.out, if_neg (by rw [HV0.out]; simp), if_neg (by rw [HV1.out]; simp), if_neg (by rw [HNN.out]; simp), if_pos (by rw [HNN.out]; exact HN24.out)])
            go_wp2
            obtain ⟨m1, m2⟩ := HK.out.out (.string X0) (.string X1) (.int .i64 0)
            refine one8_end (r := (f0.1, f1.1, 0)) ?_ ?_ ?_ ?_ (by show Box3 _ _ _ (.string (ba f0.1)) (.string (ba f1.1)) _; rw [HX0.out, HX1.out]; exact m1) m2 HOX.out
            all_goals rfl
          · have HN24 := hid h24
            have q0 := HK.out.t.c0
            have q1 := HK.out.t.c1
            have q2 := HK.out.t.c2
            have g2 := HK.out.t.free 2
            have HKN := hid (HK.out.num nn)
            have hEQ : (X0.toList == X1.toList) = decide (f0.1 = f1.1) := by rw [← HX0.out, ← HX1.out]; exact beq_ba _ _
            have HPRE : Hid (O = (if f0.1 = f1.1 then ((f0.1, f1.1, nn), -1, 1) else if dupW ws (f0.1, f1.1, nn) = true then ((f0.1, f1.1, nn), -1, 11) else if 8 < bs.length + moreM bs (f0.1, f1.1, nn) then ((f0.1, f1.1, nn), -1, 2) else ((f0.1, f1.1, nn), 0, 0))) := hid (by
              rw [HOR.out, if_neg (by rw [HV0.out]; simp), if_neg (by rw [HV1.out]; simp), if_neg (by rw [HNN.out]; simp), if_neg (by rw [HNN.out]; exact HN24.out), HNN.out])
            by_cases he : f0.1 = f1.1
            · rw [decide_eq_true he] at hEQ
              have HE := hid he
              clear he HK
              go_upto_region 15 with fail
              generalize wk.setCell ⟨w.heap.size + 2, 2, none⟩ (.int .i64 nn) = wn at HKN ⊢
              clear q0 q1 q2 g2
              have q0 := HKN.out.t.c0
              have q1 := HKN.out.t.c1
              have z0 := HKN.out.r.c0
              have z1 := HKN.out.r.c1
              have z2 := HKN.out.r.c2
              have q0 := HKN.out.t.c0
              have q1 := HKN.out.t.c1
              have q2 := HKN.out.t.c2
              have g0 := HKN.out.r.free 0
              have g1 := HKN.out.r.free 1
              have g2 := HKN.out.r.free 2
              have HOX : Hid (O = ((f0.1, f1.1, nn), -1, 1)) := hid (by rw [HPRE.out, if_pos HE.out])
              go_wp2
              obtain ⟨m1, m2⟩ := HKN.out.out (.string X0) (.string X1) (.int .i64 nn)
              refine one8_end (r := (f0.1, f1.1, nn)) ?_ ?_ ?_ ?_ (by show Box3 _ _ _ (.string (ba f0.1)) (.string (ba f1.1)) _; rw [HX0.out, HX1.out]; exact m1) m2 HOX.out
              all_goals rfl
            · rw [decide_eq_false he] at hEQ
              have HE := hid he
              clear he HK
              go_upto_region 15 with fail
              generalize wk.setCell ⟨w.heap.size + 2, 2, none⟩ (.int .i64 nn) = wn at HKN ⊢
              clear q0 q1 q2 g2
              have q0 := HKN.out.t.c0
              have q1 := HKN.out.t.c1
              obtain ⟨nw, hnw⟩ : ∃ n, ws.length = n := ⟨_, rfl⟩
              have HNW := hid hnw
              rw [hnw] at hws
              have HPR2 : Hid (O = (if dupW ws (f0.1, f1.1, nn) = true then ((f0.1, f1.1, nn), -1, 11) else if 8 < bs.length + moreM bs (f0.1, f1.1, nn) then ((f0.1, f1.1, nn), -1, 2) else ((f0.1, f1.1, nn), 0, 0))) := hid (by rw [HPRE.out, if_neg HE.out])
              clear hnw HV0 HV1 HNN HOR HPRE CV0 CV1 CD
              go_wp2_with fail
              (try rw [HNW.out])
              go_loopw [13] (fun iv wr => ∃ i : Nat, iv = .int .i64 (i : Int) ∧ i ≤ nw ∧ Hid ((ws.take i).any (twinB (f0.1, f1.1, nn)) = false) ∧ Hid (OK8 w X0 X1 nn wr)) (fun iv _ => nw - (RowKit.intOf iv).toNat)
              case atStart => exact ⟨0, rfl, Nat.zero_le _, hid rfl, HKN⟩
              case round =>
                clear q0 q1 HKN
                obtain ⟨i, rfl, hi, hN, HKN⟩ := hrel
                by_cases hlt : i < nw
                · have hltz : (i : Int) < (nw : Int) := by omega
                  have d1 : decide (nw ≤ i) = false := decide_eq_false (by omega)
                  have hil : i < ws.length := by rw [HNW.out]; exact hlt
                  obtain ⟨wb, wo, rfl, hwb, c0, c1, _⟩ := HWS.out.at_ hil
                  have kc : ∀ p : Nat, wr.cell? ⟨wb, p, none⟩ = w.cell? ⟨wb, p, none⟩ := fun p => HKN.out.b.cell (p := ⟨wb, p, none⟩) hwb
                  rw [← kc] at c0 c1
                  have hst : (ws.take (i + 1)).any (twinB (f0.1, f1.1, nn)) = twinB (f0.1, f1.1, nn) ws[i] := by
                    rw [List.take_succ_eq_append_getElem hil, List.any_append, hN.out]
                    simp
                  have hmem : twinB (f0.1, f1.1, nn) ws[i] = true → dupW ws (f0.1, f1.1, nn) = true := fun h => List.any_eq_true.2 ⟨_, List.getElem_mem hil, h⟩
                  obtain ⟨y, hy⟩ : ∃ y, ws[i] = y := ⟨_, rfl⟩
                  rw [hy] at c0 c1 hst hmem
                  obtain ⟨Y0, hY0⟩ : ∃ z, ba y.1 = z := ⟨_, rfl⟩
                  obtain ⟨Y1, hY1⟩ : ∃ z, ba y.2.1 = z := ⟨_, rfl⟩
                  have h00 : (Y0.toList == X0.toList) = decide (f0.1 = y.1) := by rw [← hY0, ← HX0.out, beq_ba]; exact decide_eq_decide.2 ⟨Eq.symm, Eq.symm⟩
                  have h11 : (Y1.toList == X1.toList) = decide (f1.1 = y.2.1) := by rw [← hY1, ← HX1.out, beq_ba]; exact decide_eq_decide.2 ⟨Eq.symm, Eq.symm⟩
                  have h01 : (Y0.toList == X1.toList) = decide (f1.1 = y.1) := by rw [← hY0, ← HX1.out, beq_ba]; exact decide_eq_decide.2 ⟨Eq.symm, Eq.symm⟩
                  have h10 : (Y1.toList == X0.toList) = decide (f0.1 = y.2.1) := by rw [← hY1, ← HX0.out, beq_ba]; exact decide_eq_decide.2 ⟨Eq.symm, Eq.symm⟩
                  rw [hY0] at c0
                  rw [hY1] at c1
                  have htw : twinB (f0.1, f1.1, nn) y = ((decide (f0.1 = y.1) && decide (f1.1 = y.2.1)) || (decide (f0.1 = y.2.1) && decide (f1.1 = y.1))) := rfl
                  obtain ⟨b00, e00⟩ : ∃ b, decide (f0.1 = y.1) = b := ⟨_, rfl⟩
                  obtain ⟨b11, e11⟩ : ∃ b, decide (f1.1 = y.2.1) = b := ⟨_, rfl⟩
                  obtain ⟨b10, e10⟩ : ∃ b, decide (f0.1 = y.2.1) = b := ⟨_, rfl⟩
                  obtain ⟨b01, e01⟩ : ∃ b, decide (f1.1 = y.1) = b := ⟨_, rfl⟩
                  rw [e00, e11, e10, e01] at htw
                  rw [e00] at h00
                  rw [e11] at h11
                  rw [e10] at h10
                  rw [e01] at h01
                  rw [htw] at hst hmem
                  have q0 := HKN.out.t.c0
                  have q1 := HKN.out.t.c1
                  have HST := hid hst
                  have HMEM := hid hmem
                  clear e00 e11 e10 e01 htw hst hmem kc hY0 hY1 hy hN
                  have hcase : (b00 = true ∧ b11 = true) ∨ (b00 = true ∧ b11 = false ∧ b01 = false) ∨ (b00 = true ∧ b11 = false ∧ b01 = true ∧ b10 = true) ∨ (b00 = true ∧ b11 = false ∧ b01 = true ∧ b10 = false) ∨ (b00 = false ∧ b01 = false) ∨ (b00 = false ∧ b01 = true ∧ b10 = true) ∨ (b00 = false ∧ b01 = true ∧ b10 = false) := by
                    cases b00 <;> cases b11 <;> cases b01 <;> cases b10 <;> simp
                  rcases hcase with ⟨rfl, rfl⟩ | ⟨rfl, rfl, rfl⟩ | ⟨rfl, rfl, rfl, rfl⟩ | ⟨rfl, rfl, rfl, rfl⟩ | ⟨rfl, rfl⟩ | ⟨rfl, rfl, rfl⟩ | ⟨rfl, rfl, rfl⟩
                  · have HD : Hid (dupW ws (f0.1, f1.1, nn) = true) := hid (by first | exact HMEM.out (by simp) | (have := HMEM.out; simpa using this))
                    clear HST HMEM
                    go_wp2_with fail
                    go_quiet (fail)
                    have hd := below_drewN' (Below.refl wr.heap.size wr) nq
                    have hk6 := HKN.out.next hd
                    generalize wr.drewN nq = w6 at hk6 ⊢
                    have HK6 := hid hk6
                    clear hk6 hd q0 q1 c0 c1 HKN
                    have z0 := HK6.out.r.c0
                    have z1 := HK6.out.r.c1
                    have z2 := HK6.out.r.c2
                    have q0 := HK6.out.t.c0
                    have q1 := HK6.out.t.c1
                    have q2 := HK6.out.t.c2
                    have g0 := HK6.out.r.free 0
                    have g1 := HK6.out.r.free 1
                    have g2 := HK6.out.r.free 2
                    have HOX : Hid (O = ((f0.1, f1.1, nn), -1, 11)) := hid (by rw [HPR2.out, if_pos HD.out])
                    go_wp2
                    obtain ⟨m1, m2⟩ := HK6.out.out (.string X0) (.string X1) (.int .i64 nn)
                    refine one8_end (r := (f0.1, f1.1, nn)) ?_ ?_ ?_ ?_ (by show Box3 _ _ _ (.string (ba f0.1)) (.string (ba f1.1)) _; rw [HX0.out, HX1.out]; exact m1) m2 HOX.out
                    all_goals rfl
                  · have HD : Hid ((ws.take (i + 1)).any (twinB (f0.1, f1.1, nn)) = false) := hid (by first | exact HST.out.trans (by simp) | (have := HST.out; simpa using this))
                    clear HST HMEM
                    go_wp2_with fail
                    go_quiet (fail)
                    have hd := below_drewN' (Below.refl wr.heap.size wr) nq
                    have hk6 := HKN.out.next hd
                    generalize wr.drewN nq = w6 at hk6 ⊢
                    have HK6 := hid hk6
                    clear hk6 hd q0 q1 c0 c1 HKN
                    go_wp2
                    go_roundw
                    case rel => exact ⟨i + 1, by go_num, by omega, HD, HK6⟩
                    case measure => simp [RowKit.intOf]; omega
                  · have HD : Hid (dupW ws (f0.1, f1.1, nn) = true) := hid (by first | exact HMEM.out (by simp) | (have := HMEM.out; simpa using this))
                    clear HST HMEM
                    go_wp2_with fail
                    go_quiet (fail)
                    have hd := below_drewN' (Below.refl wr.heap.size wr) nq
                    have hk6 := HKN.out.next hd
                    generalize wr.drewN nq = w6 at hk6 ⊢
                    have HK6 := hid hk6
                    clear hk6 hd q0 q1 c0 c1 HKN
                    have z0 := HK6.out.r.c0
                    have z1 := HK6.out.r.c1
                    have z2 := HK6.out.r.c2
                    have q0 := HK6.out.t.c0
                    have q1 := HK6.out.t.c1
                    have q2 := HK6.out.t.c2
                    have g0 := HK6.out.r.free 0
                    have g1 := HK6.out.r.free 1
                    have g2 := HK6.out.r.free 2
                    have HOX : Hid (O = ((f0.1, f1.1, nn), -1, 11)) := hid (by rw [HPR2.out, if_pos HD.out])
                    go_wp2
                    obtain ⟨m1, m2⟩ := HK6.out.out (.string X0) (.string X1) (.int .i64 nn)
                    refine one8_end (r := (f0.1, f1.1, nn)) ?_ ?_ ?_ ?_ (by show Box3 _ _ _ (.string (ba f0.1)) (.string (ba f1.1)) _; rw [HX0.out, HX1.out]; exact m1) m2 HOX.out
                    all_goals rfl
                  · have HD : Hid ((ws.take (i + 1)).any (twinB (f0.1, f1.1, nn)) = false) := hid (by first | exact HST.out.trans (by simp) | (have := HST.out; simpa using this))
                    clear HST HMEM
                    go_wp2_with fail
                    go_quiet (fail)
                    have hd := below_drewN' (Below.refl wr.heap.size wr) nq
                    have hk6 := HKN.out.next hd
                    generalize wr.drewN nq = w6 at hk6 ⊢
                    have HK6 := hid hk6
                    clear hk6 hd q0 q1 c0 c1 HKN
                    go_wp2
                    go_roundw
                    case rel => exact ⟨i + 1, by go_num, by omega, HD, HK6⟩
                    case measure => simp [RowKit.intOf]; omega
                  · have HD : Hid ((ws.take (i + 1)).any (twinB (f0.1, f1.1, nn)) = false) := hid (by first | exact HST.out.trans (by simp) | (have := HST.out; simpa using this))
                    clear HST HMEM
                    go_wp2_with fail
                    go_quiet (fail)
                    have hd := below_drewN' (Below.refl wr.heap.size wr) nq
                    have hk6 := HKN.out.next hd
                    generalize wr.drewN nq = w6 at hk6 ⊢
                    have HK6 := hid hk6
                    clear hk6 hd q0 q1 c0 c1 HKN
                    go_wp2
                    go_roundw
                    case rel => exact ⟨i + 1, by go_num, by omega, HD, HK6⟩
                    case measure => simp [RowKit.intOf]; omega
                  · have HD : Hid (dupW ws (f0.1, f1.1, nn) = true) := hid (by first | exact HMEM.out (by simp) | (have := HMEM.out; simpa using this))
                    clear HST HMEM
                    go_wp2_with fail
                    go_quiet (fail)
                    have hd := below_drewN' (Below.refl wr.heap.size wr) nq
                    have hk6 := HKN.out.next hd
                    generalize wr.drewN nq = w6 at hk6 ⊢
                    have HK6 := hid hk6
                    clear hk6 hd q0 q1 c0 c1 HKN
                    have z0 := HK6.out.r.c0
                    have z1 := HK6.out.r.c1
                    have z2 := HK6.out.r.c2
                    have q0 := HK6.out.t.c0
                    have q1 := HK6.out.t.c1
                    have q2 := HK6.out.t.c2
                    have g0 := HK6.out.r.free 0
                    have g1 := HK6.out.r.free 1
                    have g2 := HK6.out.r.free 2
                    have HOX : Hid (O = ((f0.1, f1.1, nn), -1, 11)) := hid (by rw [HPR2.out, if_pos HD.out])
                    go_wp2
                    obtain ⟨m1, m2⟩ := HK6.out.out (.string X0) (.string X1) (.int .i64 nn)
                    refine one8_end (r := (f0.1, f1.1, nn)) ?_ ?_ ?_ ?_ (by show Box3 _ _ _ (.string (ba f0.1)) (.string (ba f1.1)) _; rw [HX0.out, HX1.out]; exact m1) m2 HOX.out
                    all_goals rfl
                  · have HD : Hid ((ws.take (i + 1)).any (twinB (f0.1, f1.1, nn)) = false) := hid (by first | exact HST.out.trans (by simp) | (have := HST.out; simpa using this))
                    clear HST HMEM
                    go_wp2_with fail
                    go_quiet (fail)
                    have hd := below_drewN' (Below.refl wr.heap.size wr) nq
                    have hk6 := HKN.out.next hd
                    generalize wr.drewN nq = w6 at hk6 ⊢
                    have HK6 := hid hk6
                    clear hk6 hd q0 q1 c0 c1 HKN
                    go_wp2
                    go_roundw
                    case rel => exact ⟨i + 1, by go_num, by omega, HD, HK6⟩
                    case measure => simp [RowKit.intOf]; omega
                · have hltz : ¬ (i : Int) < (nw : Int) := by omega
                  have hn := hN.out
                  rw [List.take_of_length_le (by rw [HNW.out]; omega)] at hn
                  have HD : Hid (dupW ws (f0.1, f1.1, nn) = false) := hid hn
                  clear hn hN
                  have HPR3 : Hid (O = (if 8 < bs.length + moreM bs (f0.1, f1.1, nn) then ((f0.1, f1.1, nn), -1, 2) else ((f0.1, f1.1, nn), 0, 0))) := hid (by rw [HPR2.out, if_neg (by rw [HD.out]; simp)])
                  have cP0 := place_any Ab bs cb X0 _ wr (HSS.out.kept (w' := wr) (fun b hb => HKN.out.b.block b hb)) (by omega)
                  have cP1 := place_any Ab bs cb X1 _ wr (HSS.out.kept (w' := wr) (fun b hb => HKN.out.b.block b hb)) (by omega)
                  rw [show lst X0 = f0.1 by rw [← HX0.out, lst_ba]] at cP0
                  rw [show lst X1 = f1.1 by rw [← HX1.out, lst_ba]] at cP1
                  have hm0 := plc_mem bs f0.1
                  have hm1 := plc_mem bs f1.1
                  have hl0 := plc_lt bs f0.1
                  have hl1 := plc_lt bs f1.1
                  have hmore : moreM bs (f0.1, f1.1, nn) = (if f0.1 ∈ bs then 0 else 1) + (if f1.1 ∈ bs then 0 else 1) := rfl
                  obtain ⟨p0, hp0⟩ : ∃ p, plc bs f0.1 = p := ⟨_, rfl⟩
                  obtain ⟨p1, hp1⟩ : ∃ p, plc bs f1.1 = p := ⟨_, rfl⟩
                  rw [hp0] at cP0 hm0 hl0
                  rw [hp1] at cP1 hm1 hl1
                  have CP0 := hid cP0
                  have CP1 := hid cP1
                  clear cP0 cP1 hp0 hp1 HD HPR2
                  have q0 := HKN.out.t.c0
                  have q1 := HKN.out.t.c1
                  by_cases h0 : f0.1 ∈ bs
                  · rw [decide_eq_true h0] at hm0
                    rw [if_pos h0] at hmore
                    have hz0 : ¬ p0 < 0 := by have := of_decide_eq_true hm0; omega
                    by_cases h1 : f1.1 ∈ bs
                    · rw [decide_eq_true h1] at hm1
                      rw [if_pos h1] at hmore
                      have hz1 : ¬ p1 < 0 := by have := of_decide_eq_true hm1; omega
                      have HMO : Hid (moreM bs (f0.1, f1.1, nn) = 0) := hid hmore
                      have hwr : IntKind.i64.wrap ((bs.length : Int) + 0) = (bs.length : Int) + 0 := IntWalk.i64_in _ (by omega)
                      clear hmore hm0 hm1 h0 h1
                      go_wp2_with fail
                      refine CP0.out.mono ?_
                      rintro e wq ⟨rfl, rfl⟩
                      go_wp2_with fail
                      refine CP1.out.mono ?_
                      rintro e wq ⟨rfl, rfl⟩
                      clear q0 q1 CP0 CP1
                      by_cases h8 : 8 < bs.length + 0
                      · have h8z : (8 : Int) < (bs.length : Int) := by omega
                        have H8 := hid h8
                        clear h8
                        have z0 := HKN.out.r.c0
                        have z1 := HKN.out.r.c1
                        have z2 := HKN.out.r.c2
                        have q0 := HKN.out.t.c0
                        have q1 := HKN.out.t.c1
                        have q2 := HKN.out.t.c2
                        have g0 := HKN.out.r.free 0
                        have g1 := HKN.out.r.free 1
                        have g2 := HKN.out.r.free 2
                        have HOX : Hid (O = ((f0.1, f1.1, nn), -1, 2)) := hid (by rw [HPR3.out, if_pos (by rw [HMO.out]; exact H8.out)])
                        go_wp2
                      · have h8z : ¬ (8 : Int) < (bs.length : Int) := by omega
                        have H8 := hid h8
                        clear h8
                        have z0 := HKN.out.r.c0
                        have z1 := HKN.out.r.c1
                        have z2 := HKN.out.r.c2
                        have q0 := HKN.out.t.c0
                        have q1 := HKN.out.t.c1
                        have q2 := HKN.out.t.c2
                        have g0 := HKN.out.r.free 0
                        have g1 := HKN.out.r.free 1
                        have g2 := HKN.out.r.free 2
                        have HOX : Hid (O = ((f0.1, f1.1, nn), 0, 0)) := hid (by rw [HPR3.out, if_neg (by rw [HMO.out]; exact H8.out)])
                        go_wp2
                        obtain ⟨m1, m2⟩ := HKN.out.out (.string X0) (.string X1) (.int .i64 nn)
                        refine one8_end (r := (f0.1, f1.1, nn)) ?_ ?_ ?_ ?_ (by show Box3 _ _ _ (.string (ba f0.1)) (.string (ba f1.1)) _; rw [HX0.out, HX1.out]; exact m1) m2 HOX.out
                        all_goals rfl
                    · rw [decide_eq_false h1] at hm1
                      rw [if_neg h1] at hmore
                      have hz1 : p1 < 0 := by have := of_decide_eq_false hm1; omega
                      have HMO : Hid (moreM bs (f0.1, f1.1, nn) = 1) := hid hmore
                      have hwr : IntKind.i64.wrap ((bs.length : Int) + 1) = (bs.length : Int) + 1 := IntWalk.i64_in _ (by omega)
                      clear hmore hm0 hm1 h0 h1
                      go_wp2_with fail
                      refine CP0.out.mono ?_
                      rintro e wq ⟨rfl, rfl⟩
                      go_wp2_with fail
                      refine CP1.out.mono ?_
                      rintro e wq ⟨rfl, rfl⟩
                      clear q0 q1 CP0 CP1
                      by_cases h8 : 8 < bs.length + 1
                      · have h8z : (8 : Int) < (bs.length : Int) + 1 := by omega
                        have H8 := hid h8
                        clear h8
                        have z0 := HKN.out.r.c0
                        have z1 := HKN.out.r.c1
                        have z2 := HKN.out.r.c2
                        have q0 := HKN.out.t.c0
                        have q1 := HKN.out.t.c1
                        have q2 := HKN.out.t.c2
                        have g0 := HKN.out.r.free 0
                        have g1 := HKN.out.r.free 1
                        have g2 := HKN.out.r.free 2
                        have HOX : Hid (O = ((f0.1, f1.1, nn), -1, 2)) := hid (by rw [HPR3.out, if_pos (by rw [HMO.out]; exact H8.out)])
                        go_wp2
                        obtain ⟨m1, m2⟩ := HKN.out.out (.string X0) (.string X1) (.int .i64 nn)
                        refine one8_end (r := (f0.1, f1.1, nn)) ?_ ?_ ?_ ?_ (by show Box3 _ _ _ (.string (ba f0.1)) (.string (ba f1.1)) _; rw [HX0.out, HX1.out]; exact m1) m2 HOX.out
                        all_goals rfl
                      · have h8z : ¬ (8 : Int) < (bs.length : Int) + 1 := by omega
                        have H8 := hid h8
                        clear h8
                        have z0 := HKN.out.r.c0
                        have z1 := HKN.out.r.c1
                        have z2 := HKN.out.r.c2
                        have q0 := HKN.out.t.c0
                        have q1 := HKN.out.t.c1
                        have q2 := HKN.out.t.c2
                        have g0 := HKN.out.r.free 0
                        have g1 := HKN.out.r.free 1
                        have g2 := HKN.out.r.free 2
                        have HOX : Hid (O = ((f0.1, f1.1, nn), 0, 0)) := hid (by rw [HPR3.out, if_neg (by rw [HMO.out]; exact H8.out)])
                        go_wp2
                        obtain ⟨m1, m2⟩ := HKN.out.out (.string X0) (.string X1) (.int .i64 nn)
                        refine one8_end (r := (f0.1, f1.1, nn)) ?_ ?_ ?_ ?_ (by show Box3 _ _ _ (.string (ba f0.1)) (.string (ba f1.1)) _; rw [HX0.out, HX1.out]; exact m1) m2 HOX.out
                        all_goals rfl
                  · rw [decide_eq_false h0] at hm0
                    rw [if_neg h0] at hmore
                    have hz0 : p0 < 0 := by have := of_decide_eq_false hm0; omega
                    by_cases h1 : f1.1 ∈ bs
                    · rw [decide_eq_true h1] at hm1
                      rw [if_pos h1] at hmore
                      have hz1 : ¬ p1 < 0 := by have := of_decide_eq_true hm1; omega
                      have HMO : Hid (moreM bs (f0.1, f1.1, nn) = 1) := hid hmore
                      have hwr : IntKind.i64.wrap ((bs.length : Int) + 1) = (bs.length : Int) + 1 := IntWalk.i64_in _ (by omega)
                      clear hmore hm0 hm1 h0 h1
                      go_wp2_with fail
                      refine CP0.out.mono ?_
                      rintro e wq ⟨rfl, rfl⟩
                      go_wp2_with fail
                      refine CP1.out.mono ?_
                      rintro e wq ⟨rfl, rfl⟩
                      clear q0 q1 CP0 CP1
                      by_cases h8 : 8 < bs.length + 1
                      · have h8z : (8 : Int) < (bs.length : Int) + 1 := by omega
                        have H8 := hid h8
                        clear h8
                        have z0 := HKN.out.r.c0
                        have z1 := HKN.out.r.c1
                        have z2 := HKN.out.r.c2
                        have q0 := HKN.out.t.c0
                        have q1 := HKN.out.t.c1
                        have q2 := HKN.out.t.c2
                        have g0 := HKN.out.r.free 0
                        have g1 := HKN.out.r.free 1
                        have g2 := HKN.out.r.free 2
                        have HOX : Hid (O = ((f0.1, f1.1, nn), -1, 2)) := hid (by rw [HPR3.out, if_pos (by rw [HMO.out]; exact H8.out)])
                        go_wp2
                        obtain ⟨m1, m2⟩ := HKN.out.out (.string X0) (.string X1) (.int .i64 nn)
                        refine one8_end (r := (f0.1, f1.1, nn)) ?_ ?_ ?_ ?_ (by show Box3 _ _ _ (.string (ba f0.1)) (.string (ba f1.1)) _; rw [HX0.out, HX1.out]; exact m1) m2 HOX.out
                        all_goals rfl
                      · have h8z : ¬ (8 : Int) < (bs.length : Int) + 1 := by omega
                        have H8 := hid h8
                        clear h8
                        have z0 := HKN.out.r.c0
                        have z1 := HKN.out.r.c1
                        have z2 := HKN.out.r.c2
                        have q0 := HKN.out.t.c0
                        have q1 := HKN.out.t.c1
                        have q2 := HKN.out.t.c2
                        have g0 := HKN.out.r.free 0
                        have g1 := HKN.out.r.free 1
                        have g2 := HKN.out.r.free 2
                        have HOX : Hid (O = ((f0.1, f1.1, nn), 0, 0)) := hid (by rw [HPR3.out, if_neg (by rw [HMO.out]; exact H8.out)])
                        go_wp2
                        obtain ⟨m1, m2⟩ := HKN.out.out (.string X0) (.string X1) (.int .i64 nn)
                        refine one8_end (r := (f0.1, f1.1, nn)) ?_ ?_ ?_ ?_ (by show Box3 _ _ _ (.string (ba f0.1)) (.string (ba f1.1)) _; rw [HX0.out, HX1.out]; exact m1) m2 HOX.out
                        all_goals rfl
                    · rw [decide_eq_false h1] at hm1
                      rw [if_neg h1] at hmore
                      have hz1 : p1 < 0 := by have := of_decide_eq_false hm1; omega
                      have HMO : Hid (moreM bs (f0.1, f1.1, nn) = 2) := hid hmore
                      have hwr : IntKind.i64.wrap ((bs.length : Int) + 2) = (bs.length : Int) + 2 := IntWalk.i64_in _ (by omega)
                      clear hmore hm0 hm1 h0 h1
                      go_wp2_with fail
                      refine CP0.out.mono ?_
                      rintro e wq ⟨rfl, rfl⟩
                      go_wp2_with fail
                      refine CP1.out.mono ?_
                      rintro e wq ⟨rfl, rfl⟩
                      clear q0 q1 CP0 CP1
                      by_cases h8 : 8 < bs.length + 2
                      · have h8z : (8 : Int) < (bs.length : Int) + 2 := by omega
                        have H8 := hid h8
                        clear h8
                        have z0 := HKN.out.r.c0
                        have z1 := HKN.out.r.c1
                        have z2 := HKN.out.r.c2
                        have q0 := HKN.out.t.c0
                        have q1 := HKN.out.t.c1
                        have q2 := HKN.out.t.c2
                        have g0 := HKN.out.r.free 0
                        have g1 := HKN.out.r.free 1
                        have g2 := HKN.out.r.free 2
                        have HOX : Hid (O = ((f0.1, f1.1, nn), -1, 2)) := hid (by rw [HPR3.out, if_pos (by rw [HMO.out]; exact H8.out)])
                        go_wp2
                        obtain ⟨m1, m2⟩ := HKN.out.out (.string X0) (.string X1) (.int .i64 nn)
                        refine one8_end (r := (f0.1, f1.1, nn)) ?_ ?_ ?_ ?_ (by show Box3 _ _ _ (.string (ba f0.1)) (.string (ba f1.1)) _; rw [HX0.out, HX1.out]; exact m1) m2 HOX.out
                        all_goals rfl
                      · have h8z : ¬ (8 : Int) < (bs.length : Int) + 2 := by omega
                        have H8 := hid h8
                        clear h8
                        have z0 := HKN.out.r.c0
                        have z1 := HKN.out.r.c1
                        have z2 := HKN.out.r.c2
                        have q0 := HKN.out.t.c0
                        have q1 := HKN.out.t.c1
                        have q2 := HKN.out.t.c2
                        have g0 := HKN.out.r.free 0
                        have g1 := HKN.out.r.free 1
                        have g2 := HKN.out.r.free 2
                        have HOX : Hid (O = ((f0.1, f1.1, nn), 0, 0)) := hid (by rw [HPR3.out, if_neg (by rw [HMO.out]; exact H8.out)])
                        go_wp2
                        obtain ⟨m1, m2⟩ := HKN.out.out (.string X0) (.string X1) (.int .i64 nn)
                        refine one8_end (r := (f0.1, f1.1, nn)) ?_ ?_ ?_ ?_ (by show Box3 _ _ _ (.string (ba f0.1)) (.string (ba f1.1)) _; rw [HX0.out, HX1.out]; exact m1) m2 HOX.out
                        all_goals rfl
  · have hOf : O = (zeroW, -1, 9) := by rw [← hO]; unfold oneR; rw [if_pos (by rw [HFL.out]; exact h3)]
    have hn3 : ((F : Int) != 3) = true := by simp; omega
    have z0 := HX2.out.c0
    have z1 := HX2.out.c1
    have z2 := HX2.out.c2
    have f0 := HX2.out.free 0
    have f1 := HX2.out.free 1
    have f2 := HX2.out.free 2
    clear hO hFl
    go_enter Tryd.func40, Tryd.ntmps40
    go_upto_region 1 with fail
    (try rw [hw1])
    (try rw [hw2])
    (try rw [HS1.out])
    clear hw1 hw2
    go_wp2
    refine one8_end (r := zeroW) ?_ ?_ ?_ ?_ (HX2.out.set _ _ _) (((HB2.out.setCell (p := ⟨w.heap.size + 1, 0, none⟩) (by show w.heap.size ≤ w.heap.size + 1; omega) _).setCell (p := ⟨w.heap.size + 1, 1, none⟩) (by show w.heap.size ≤ w.heap.size + 1; omega) _).setCell (p := ⟨w.heap.size + 1, 2, none⟩) (by show w.heap.size ≤ w.heap.size + 1; omega) _) hOf
    all_goals rfl
end Go.Proofs.YtocmbifljkcmeaaDoor

