/-
  An entry out of the fields of a record: readEntry of entries, at ways. Conditions: the fields lie in memory; the library's variable holds an error.
-/
import Derived.Test.YtocmbifljkcmeaaDoorR8L
set_option linter.unusedVariables false
namespace Go.Proofs.YtocmbifljkcmeaaDoor
open Go Go.Proofs Go.RowKit Go.Lib

/-- What a call that reads an entry leaves behind. -/
def EntryOut8 (o : WayD × Int × Int) (w : World) (e : Ending) (w' : World) : Prop :=
  e = .returned (.tuple #[wayV o.1, .int .i64 o.2.1, .int .i64 o.2.2]) ∧ Below w.heap.size w w'
theorem results_ctt {fn : Func} {p u v : Tmp} {A : TypeId} (h : fn.results = #[.cell p A, .tmp u, .tmp v]) (tmps : Array Value) (P : Program) (w : World) (a : Addr) (va vc vd : Value)
    (ha : tmps.getD p undef = .pointer (some a)) (hc : tmps.getD u undef = vc) (hd : tmps.getD v undef = vd)
    (hla : (loadVar A a).run P w = .ok va w) : (results fn tmps).run P w = .ok (.tuple #[va, vc, vd]) w := by
  rw [Array.getD_eq_getD_getElem?] at ha hc hd
  simp only [results, h]
  simp [Result.andThen, ha, hc, hd, hla, asAddr]
theorem loadWay {w : World} {k : Nat} {v0 v1 v2 : Value} (h : Box3 w k 51 v0 v1 v2) : (loadVar 51 ⟨k, 0, none⟩).run Tryd.prog w = .ok (.agg #[v0, v1, v2]) w := by
  have h0 := h.c0
  have h1 := h.c1
  have h2 := h.c2
  simp [loadVar, go_sem, h0, h1, h2]
theorem entry8_end {w W : World} {a : Act} {r : WayD} {c e : Int} {o : WayD × Int × Int} (hp : a.tmps.getD 6 undef = .pointer (some ⟨w.heap.size, 0, none⟩)) (hc : a.tmps.getD 7 undef = .int .i64 c) (he : a.tmps.getD 8 undef = .int .i64 e) (hd : a.defers = [])
    (hx : WayBox W w.heap.size 51 r) (hb : Below w.heap.size w W) (ho : o = (r, c, e)) :
    bodyPost Tryd.prog Tryd.f51 (EntryOut8 o w) Exit.ret a W := by
  subst ho
  exact bodyPost_ret (v := .tuple #[wayV r, .int .i64 c, .int .i64 e]) (results_ctt rfl _ _ _ ⟨w.heap.size, 0, none⟩ _ _ _ hp hc he (loadWay hx)) hd ⟨rfl, hb⟩
set_option maxHeartbeats 8000000 in
set_option maxRecDepth 100000 in
theorem readEntry8_any (A : Option Addr) (fs : List FieldD) (c B : Nat) (w : World) (hB : B ≤ w.heap.size) (h : FieldsIn w (fun b => b < B) A fs) (hfc : fs.length ≤ c) (hc : c ≤ 9223372036854775807)
    (hE : ∀ W, Below w.heap.size w W → Env8 W) :
    Calls Tryd.prog 51 #[.slice A fs.length c, .int .i64 3, .func (.func 37) #[] #[]] w (EntryOut8 (entryW fs) w) := by
  have eg : ∀ args w, (callFunc 37 args).run Tryd.prog w = .ok (.enter 37 args) w := enters_of Tryd.func37 (by kernel_rfl) rfl
  obtain ⟨O, hO⟩ : ∃ O, entryW fs = O := ⟨_, rfl⟩
  rw [hO]
  have hb0 := (Below.refl w.heap.size w).alloc (Nat.le_refl _) (.cells #[.string ⟨#[]⟩, .string ⟨#[]⟩, .int .i64 0] 51)
  have hx0 := Box3.new w 51 (.string ⟨#[]⟩) (.string ⟨#[]⟩) (.int .i64 0)
  have HH := hid h
  have HE := hid hE
  by_cases h5 : fs.length = 3
  · have hn5 : ((fs.length : Int) != 3) = false := by rw [h5]; rfl
    have hOe : Hid (wfold fs 0 zeroW = O) := hid (by rw [← hO]; unfold entryW; rw [if_neg (by simp [h5])])
    have HB0 := hid hb0
    have HX0 := hid hx0
    clear h hE hO hb0 hx0
    go_enter Tryd.func51, Tryd.ntmps51
    go_wp2
    generalize w.alloc (.cells #[.string ⟨#[]⟩, .string ⟨#[]⟩, .int .i64 0] 51) = wz at HB0 HX0 ⊢
    go_loopw [9, 10, 11, 19] (fun _ _ _ iv wr => ∃ (i : Nat) (r : WayD), iv = .int .i64 (i : Int) ∧ i ≤ 3 ∧ Hid (wfold (fs.drop i) i r = O) ∧ Hid (WayBox wr w.heap.size 51 r) ∧ Hid (Below w.heap.size w wr)) (fun _ _ _ iv _ => 3 - (RowKit.intOf iv).toNat)
    case atStart => exact ⟨0, zeroW, rfl, by omega, hid hOe.out, hid HX0.out, hid HB0.out⟩
    case round =>
      obtain ⟨i, r, rfl, hi, hE, hX, hBw⟩ := hrel
      by_cases hlt : i < 3
      · have hlt' : i < fs.length := by omega
        have hltz : (i : Int) < (fs.length : Int) := by omega
        have hst := wfold_step fs i hlt' r
        rw [hE.out] at hst
        obtain ⟨fb, fo, rfl, hfb, hc0⟩ := HH.out.at_ hlt'
        obtain ⟨⟨fx, fcol, fq⟩, hfi⟩ : ∃ f, fs[i] = f := ⟨_, rfl⟩
        rw [hfi] at hst hc0
        dsimp only at hst hc0
        obtain ⟨y0, y1, y2⟩ := hc0
        have kc : ∀ o : Nat, wr.cell? ⟨fb, o, none⟩ = w.cell? ⟨fb, o, none⟩ := fun o => hBw.out.cell (p := ⟨fb, o, none⟩) (by show fb < w.heap.size; omega)
        rw [← kc] at y0 y1 y2
        have hxl := hX.out.lt
        have hw1 := (Below.refl wr.heap.size wr).alloc (Nat.le_refl _) (.cells #[.string (ba fx), .int .i64 fcol, .bool fq] 81)
        have e1 := heap_alloc_new wr (.cells #[.string (ba fx), .int .i64 fcol, .bool fq] 81)
        have hs1 : (wr.alloc (.cells #[.string (ba fx), .int .i64 fcol, .bool fq] 81)).heap.size = wr.heap.size + 1 := by simp
        have HW1 := hid hw1
        have HE1 := hid e1
        have HS1 := hid hs1
        have HST := hid hst
        obtain ⟨z, hz⟩ : ∃ z, ba fx = z := ⟨_, rfl⟩
        have HZ := hid hz
        rw [hz] at y0 HW1 HE1 HS1
        clear hst kc hfi hw1 e1 hs1 hz hE
        go_wp2_with fail
        generalize wr.alloc (.cells #[.string z, .int .i64 fcol, .bool fq] 81) = w1 at HW1 HE1 HS1 ⊢
        have hX1 := hX.out.next HW1.out
        have hB1 := hBw.out.trans (HW1.out.mono hBw.out.size)
        have cF := wayField_any fx r w.heap.size w1 hX1 (HE.out w1 hB1) i hlt
        rw [HZ.out] at cF
        have CF := hid cF
        clear cF hX1 hX
        refine CF.out.mono ?_
        rintro e w2 ⟨rfl, hX2, hg2⟩
        obtain ⟨⟨r', e2⟩, hse⟩ : ∃ S, setW i fx r = S := ⟨_, rfl⟩
        rw [hse] at hX2 HST ⊢
        dsimp only at hX2 HST ⊢
        have HX2 := hid hX2
        have HG2 := hid hg2
        clear hX2 hg2
        have hlt1 : w.heap.size < w1.heap.size := by rw [HS1.out]; omega
        have hBend : Below w.heap.size w w2 := (hBw.out.trans (HW1.out.mono hBw.out.size)).grown HG2.out (by omega) (fun k e => by injection e; omega)
        have HBE := hid hBend
        clear hBend
        by_cases h2 : e2 = 0
        · subst h2
          have hst := HST.out
          simp only [ne_eq, not_true, if_false] at hst
          have HN := hid hst.symm
          clear hst
          go_wp2
          exact ⟨⟨i + 1, r', rfl, by omega, HN, HX2, HBE⟩, by simp [RowKit.intOf]; omega⟩
        · have hst := HST.out
          rw [if_pos h2] at hst
          have hfr : w2.heap[wr.heap.size]? = some (.cells #[.string z, .int .i64 fcol, .bool fq] 81 (0, 0)) := (HG2.out.block wr.heap.size (by rw [HS1.out]; omega) (fun e => by injection e; omega)).trans HE1.out
          have c1 : w2.cell? ⟨wr.heap.size, 1, none⟩ = some (.int .i64 fcol) := by rw [Lib.cell_of_heap hfr]; rfl
          have y0' := HX2.out.c0
          have y1' := HX2.out.c1
          have y2' := HX2.out.c2
          have f0 := HX2.out.free 0
          have f1 := HX2.out.free 1
          have f2 := HX2.out.free 2
          have HST2 := hid hst
          clear hst hfr
          go_wp2
          go_region
          go_wp2
          have k1 : WayBox (((w2.setCell ⟨w.heap.size, 0, none⟩ (.string (ba r'.1))).setCell ⟨w.heap.size, 1, none⟩ (.string (ba r'.2.1))).setCell ⟨w.heap.size, 2, none⟩ (.int .i64 r'.2.2)).drew w.heap.size 51 r' := (HX2.out.set _ _ _).kept rfl
          refine entry8_end (r := r') ?_ ?_ ?_ ?_ k1 ((((HBE.out.setCell (p := ⟨w.heap.size, 0, none⟩) (Nat.le_refl _) _).setCell (p := ⟨w.heap.size, 1, none⟩) (Nat.le_refl _) _).setCell (p := ⟨w.heap.size, 2, none⟩) (Nat.le_refl _) _).drew) HST2.out
          all_goals rfl
      · have : i = 3 := by omega
        subst this
        have hdrop : fs.drop 3 = [] := List.drop_eq_nil_of_le (by omega)
        have hOf := hE.out
        rw [hdrop] at hOf
        have y0' := hX.out.c0
        have y1' := hX.out.c1
        have y2' := hX.out.c2
        have f0 := hX.out.free 0
        have f1 := hX.out.free 1
        have f2 := hX.out.free 2
        go_wp2
        refine entry8_end (r := r) ?_ ?_ ?_ ?_ (hX.out.set _ _ _) (((hBw.out.setCell (p := ⟨w.heap.size, 0, none⟩) (Nat.le_refl _) _).setCell (p := ⟨w.heap.size, 1, none⟩) (Nat.le_refl _) _).setCell (p := ⟨w.heap.size, 2, none⟩) (Nat.le_refl _) _) (by rw [← hOf]; rfl)
        all_goals rfl
  · have hn5 : ((fs.length : Int) != 3) = true := by simp; omega
    have hOf : O = (zeroW, 0, 9) := by rw [← hO]; unfold entryW; rw [if_pos h5]
    have HB0 := hid hb0
    have HX0 := hid hx0
    clear h hE hO hb0 hx0
    go_enter Tryd.func51, Tryd.ntmps51
    go_wp2
    refine entry8_end (r := zeroW) ?_ ?_ ?_ ?_ HX0.out HB0.out hOf
    all_goals rfl
end Go.Proofs.YtocmbifljkcmeaaDoor
