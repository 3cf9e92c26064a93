/-
  An entry out of the fields of a record: readEntry of entries, at ways. Conditions: the fields lie in memory; the library's variable holds an error.
  What holds while ways are read out of records. Conditions: as stated.
  Ways out of records: Read of entries, at ways. Conditions: the records lie below the network's block; the library's variable holds an error.
  Read of travel. Conditions: the records lie in memory; the library's variable holds an error.
  Numbers of at most two digits by the specification: number, Digits. Conditions: as the lemmas state.
-/
import Derived.Test.YtocmbifljkcmeaaDoorTN01
import Derived.Test.YtocmbifljkcmeaaDoorTN02
import Derived.Test.YtocmbifljkcmeaaDoorTN03
import Derived.Test.YtocmbifljkcmeaaDoorTN04
import Derived.Test.YtocmbifljkcmeaaDoorTN05
import Derived.Test.YtocmbifljkcmeaaDoorTN06
import Derived.Test.YtocmbifljkcmeaaDoorTN07
import Derived.Test.YtocmbifljkcmeaaDoorTN08
import Derived.Test.YtocmbifljkcmeaaDoorTN09
import Derived.Test.YtocmbifljkcmeaaDoorProg
import Derived.WalkKit
import Derived.WalkSpells
import Derived.WalkLawsBesides
import Derived.Lib.Hide
import Derived.Deep.QuietTactic
import Derived.BigQuiet
import Derived.Laws.Rows
import Derived.OwnWalk
import Derived.Lib.BufferWrite
import Derived.Lib.UnsafeStr
import Derived.Laws.IdiomStrings
import Derived.Laws.BytesArg
import Derived.Laws.BytesString
import Derived.Laws.OwnMore
import Derived.Lib.IndexLaws
import Derived.Lib.ItoaNum
import Derived.Lib.Atoi
import Derived.Lib.Bytealg
import Derived.Handy
import Derived.Laws.ResultCell
import Derived.RegionTactic
import Derived.Deep.DeepCutAuto
import Derived.Deep.CutBlock
import Derived.Deep.RegionHeld3
import Derived.Deep.RegionLaw
import Derived.Deep.RegionWith
import Derived.Deep.AppendLies
import Derived.Maps.AppendAt
import Derived.StillTailTactics
import Derived.Shelf.Abstract
import Derived.Lib.SlTrimSet
import Derived.Shelf.Strconv.Atoi
import Derived.Shelf.Strconv.Itoa0
import Derived.Shelf.Strconv.Itoa1
import Derived.Shelf.LaysM
import Derived.Shelf.Strconv.Itoa2
import Derived.Shelf.Strconv.Itoa3
import Derived.Shelf.Strconv.AtoiErrFast
import Derived.Shelf.Strconv.ParseIntEmpty
import Derived.Shelf.Strconv.AtoiFail
import Derived.Shelf.Strconv.Clone
import Derived.Shelf.Strconv.SyntaxError
import Derived.Shelf.LaysC
import Derived.Shelf.Strconv.ToError
import Derived.Shelf.Strconv.AtoiErr
import Derived.Shelf.Bits.Mul64
import Derived.Shelf.Slices.Turned
import Derived.Lib.AtoiErrMem
import Derived.ArgAppend
import Derived.Deep.DeepAppendRoom
import Derived.Lib.SliceRun
import Derived.RangeFuncBox
import Derived.Deep.RegionLawGrows
import Derived.Laws.CopyOwn
set_option linter.unusedVariables false
namespace Go.Proofs.YtocmbifljkcmeaaDoor
open Go Go.Proofs Go.RowKit Go.Lib

/-- What a call that reads an entry leaves behind. -/
def EntryOut8 (o : WayD × Int × Int) (w : World) (e : Ending) (w' : World) : Prop :=
  e = .returned (.tuple #[wayV o.1, .int .i64 o.2.1, .int .i64 o.2.2]) ∧ Below w.heap.size w w'
theorem results_ctt {fn : Func} {p u v : Tmp} {A : TypeId} (h : fn.results = #[.cell p A, .tmp u, .tmp v]) (tmps : Array Value) (P : Program) (w : World) (a : Addr) (va vc vd : Value)
    (ha : tmps.getD p undef = .pointer (some a)) (hc : tmps.getD u undef = vc) (hd : tmps.getD v undef = vd)
    (hla : (loadVar A a).run P w = .ok va w) : (results fn tmps).run P w = .ok (.tuple #[va, vc, vd]) w := by
  rw [Array.getD_eq_getD_getElem?] at ha hc hd
  simp only [results, h]
  simp [Result.andThen, ha, hc, hd, hla, asAddr]
theorem loadWay {w : World} {k : Nat} {v0 v1 v2 : Value} (h : Box3 w k 51 v0 v1 v2) : (loadVar 51 ⟨k, 0, none⟩).run Tryd.prog w = .ok (.agg #[v0, v1, v2]) w := by
  have h0 := h.c0
  have h1 := h.c1
  have h2 := h.c2
  simp [loadVar, go_sem, h0, h1, h2]
theorem entry8_end {w W : World} {a : Act} {r : WayD} {c e : Int} {o : WayD × Int × Int} (hp : a.tmps.getD 6 undef = .pointer (some ⟨w.heap.size, 0, none⟩)) (hc : a.tmps.getD 7 undef = .int .i64 c) (he : a.tmps.getD 8 undef = .int .i64 e) (hd : a.defers = [])
    (hx : WayBox W w.heap.size 51 r) (hb : Below w.heap.size w W) (ho : o = (r, c, e)) :
    bodyPost Tryd.prog Tryd.f51 (EntryOut8 o w) Exit.ret a W := by
  subst ho
  exact bodyPost_ret (v := .tuple #[wayV r, .int .i64 c, .int .i64 e]) (results_ctt rfl _ _ _ ⟨w.heap.size, 0, none⟩ _ _ _ hp hc he (loadWay hx)) hd ⟨rfl, hb⟩
set_option maxHeartbeats 8000000 in
set_option maxRecDepth 100000 in
theorem readEntry8_any (A : Option Addr) (fs : List FieldD) (c B : Nat) (w : World) (hB : B ≤ w.heap.size) (h : FieldsIn w (fun b => b < B) A fs) (hfc : fs.length ≤ c) (hc : c ≤ 9223372036854775807)
    (hE : ∀ W, Below w.heap.size w W → Env8 W) :
    Calls Tryd.prog 51 #[.slice A fs.length c, .int .i64 3, .func (.func 37) #[] #[]] w (EntryOut8 (entryW fs) w) := by
  have eg : ∀ args w, (callFunc 37 args).run Tryd.prog w = .ok (.enter 37 args) w := enters_of Tryd.func37 (by kernel_rfl) rfl
  obtain ⟨O, hO⟩ : ∃ O, entryW fs = O := ⟨_, rfl⟩
  rw [hO]
  have hb0 := (Below.refl w.heap.size w).alloc (Nat.le_refl _) (.cells #[.string ⟨#[]⟩, .string ⟨#[]⟩, .int .i64 0] 51)
  have hx0 := Box3.new w 51 (.string ⟨#[]⟩) (.string ⟨#[]⟩) (.int .i64 0)
  have HH := hid h
  have HE := hid hE
  by_cases h5 : fs.length = 3
  · have hn5 : ((fs.length : Int) != 3) = false := by rw [h5]; rfl
    have hOe : Hid (wfold fs 0 zeroW = O) := hid (by rw [← hO]; unfold entryW; rw [if_neg (by simp [h5])])
    have HB0 := hid hb0
    have HX0 := hid hx0
    clear h hE hO hb0 hx0
    go_enter Tryd.func51, Tryd.ntmps51
    go_wp2
    generalize w.alloc (.cells #[.string ⟨#[]⟩, .string ⟨#[]⟩, .int .i64 0] 51) = wz at HB0 HX0 ⊢
    go_loopw [9, 10, 11, 19] (fun _ _ _ iv wr => ∃ (i : Nat) (r : WayD), iv = .int .i64 (i : Int) ∧ i ≤ 3 ∧ Hid (wfold (fs.drop i) i r = O) ∧ Hid (WayBox wr w.heap.size 51 r) ∧ Hid (Below w.heap.size w wr)) (fun _ _ _ iv _ => 3 - (RowKit.intOf iv).toNat)
    case atStart => exact ⟨0, zeroW, rfl, by omega, hid hOe.out, hid HX0.out, hid HB0.out⟩
    case round =>
      obtain ⟨i, r, rfl, hi, hE, hX, hBw⟩ := hrel
      by_cases hlt : i < 3
      · have hlt' : i < fs.length := by omega
        have hltz : (i : Int) < (fs.length : Int) := by omega
        have hst := wfold_step fs i hlt' r
        rw [hE.out] at hst
        obtain ⟨fb, fo, rfl, hfb, hc0⟩ := HH.out.at_ hlt'
        obtain ⟨⟨fx, fcol, fq⟩, hfi⟩ : ∃ f, fs[i] = f := ⟨_, rfl⟩
        rw [hfi] at hst hc0
        dsimp only at hst hc0
        obtain ⟨y0, y1, y2⟩ := hc0
        have kc : ∀ o : Nat, wr.cell? ⟨fb, o, none⟩ = w.cell? ⟨fb, o, none⟩ := fun o => hBw.out.cell (p := ⟨fb, o, none⟩) (by show fb < w.heap.size; omega)
        rw [← kc] at y0 y1 y2
        have hxl := hX.out.lt
        have hw1 := (Below.refl wr.heap.size wr).alloc (Nat.le_refl _) (.cells #[.string (ba fx), .int .i64 fcol, .bool fq] 81)
        have e1 := heap_alloc_new wr (.cells #[.string (ba fx), .int .i64 fcol, .bool fq] 81)
        have hs1 : (wr.alloc (.cells #[.string (ba fx), .int .i64 fcol, .bool fq] 81)).heap.size = wr.heap.size + 1 := by simp
        have HW1 := hid hw1
        have HE1 := hid e1
        have HS1 := hid hs1
        have HST := hid hst
        obtain ⟨z, hz⟩ : ∃ z, ba fx = z := ⟨_, rfl⟩
        have HZ := hid hz
        rw [hz] at y0 HW1 HE1 HS1
        clear hst kc hfi hw1 e1 hs1 hz hE
        go_wp2_with fail
        generalize wr.alloc (.cells #[.string z, .int .i64 fcol, .bool fq] 81) = w1 at HW1 HE1 HS1 ⊢
        have hX1 := hX.out.next HW1.out
        have hB1 := hBw.out.trans (HW1.out.mono hBw.out.size)
        have cF := wayField_any fx r w.heap.size w1 hX1 (HE.out w1 hB1) i hlt
        rw [HZ.out] at cF
        have CF := hid cF
        clear cF hX1 hX
        refine CF.out.mono ?_
        rintro e w2 ⟨rfl, hX2, hg2⟩
        obtain ⟨⟨r', e2⟩, hse⟩ : ∃ S, setW i fx r = S := ⟨_, rfl⟩
        rw [hse] at hX2 HST ⊢
        dsimp only at hX2 HST ⊢
        have HX2 := hid hX2
        have HG2 := hid hg2
        clear hX2 hg2
        have hlt1 : w.heap.size < w1.heap.size := by rw [HS1.out]; omega
        have hBend : Below w.heap.size w w2 := (hBw.out.trans (HW1.out.mono hBw.out.size)).grown HG2.out (by omega) (fun k e => by injection e; omega)
        have HBE := hid hBend
        clear hBend
        by_cases h2 : e2 = 0
        · subst h2
          have hst := HST.out
          simp only [ne_eq, not_true, if_false] at hst
          have HN := hid hst.symm
          clear hst
          go_wp2
          exact ⟨⟨i + 1, r', rfl, by omega, HN, HX2, HBE⟩, by simp [RowKit.intOf]; omega⟩
        · have hst := HST.out
          rw [if_pos h2] at hst
          have hfr : w2.heap[wr.heap.size]? = some (.cells #[.string z, .int .i64 fcol, .bool fq] 81 (0, 0)) := (HG2.out.block wr.heap.size (by rw [HS1.out]; omega) (fun e => by injection e; omega)).trans HE1.out
          have c1 : w2.cell? ⟨wr.heap.size, 1, none⟩ = some (.int .i64 fcol) := by rw [Lib.cell_of_heap hfr]; rfl
          have y0' := HX2.out.c0
          have y1' := HX2.out.c1
          have y2' := HX2.out.c2
          have f0 := HX2.out.free 0
          have f1 := HX2.out.free 1
          have f2 := HX2.out.free 2
          have HST2 := hid hst
          clear hst hfr
          go_wp2
          go_region
          go_wp2
          have k1 : WayBox (((w2.setCell ⟨w.heap.size, 0, none⟩ (.string (ba r'.1))).setCell ⟨w.heap.size, 1, none⟩ (.string (ba r'.2.1))).setCell ⟨w.heap.size, 2, none⟩ (.int .i64 r'.2.2)).drew w.heap.size 51 r' := (HX2.out.set _ _ _).kept rfl
          refine entry8_end (r := r') ?_ ?_ ?_ ?_ k1 ((((HBE.out.setCell (p := ⟨w.heap.size, 0, none⟩) (Nat.le_refl _) _).setCell (p := ⟨w.heap.size, 1, none⟩) (Nat.le_refl _) _).setCell (p := ⟨w.heap.size, 2, none⟩) (Nat.le_refl _) _).drew) HST2.out
          all_goals rfl
      · have : i = 3 := by omega
        subst this
        have hdrop : fs.drop 3 = [] := List.drop_eq_nil_of_le (by omega)
        have hOf := hE.out
        rw [hdrop] at hOf
        have y0' := hX.out.c0
        have y1' := hX.out.c1
        have y2' := hX.out.c2
        have f0 := hX.out.free 0
        have f1 := hX.out.free 1
        have f2 := hX.out.free 2
        go_wp2
        refine entry8_end (r := r) ?_ ?_ ?_ ?_ (hX.out.set _ _ _) (((hBw.out.setCell (p := ⟨w.heap.size, 0, none⟩) (Nat.le_refl _) _).setCell (p := ⟨w.heap.size, 1, none⟩) (Nat.le_refl _) _).setCell (p := ⟨w.heap.size, 2, none⟩) (Nat.le_refl _) _) (by rw [← hOf]; rfl)
        all_goals rfl
  · have hn5 : ((fs.length : Int) != 3) = true := by simp; omega
    have hOf : O = (zeroW, 0, 9) := by rw [← hO]; unfold entryW; rw [if_pos h5]
    have HB0 := hid hb0
    have HX0 := hid hx0
    clear h hE hO hb0 hx0
    go_enter Tryd.func51, Tryd.ntmps51
    go_wp2
    refine entry8_end (r := zeroW) ?_ ?_ ?_ ?_ HX0.out HB0.out hOf
    all_goals rfl
end Go.Proofs.YtocmbifljkcmeaaDoor

set_option linter.unusedVariables false
namespace Go.Proofs.YtocmbifljkcmeaaDoor
open Go Go.Proofs Go.RowKit Go.Lib

structure EInv8 (M : Nat) (w : World) (rs : List WayD) (N : NetD) (ps : List ProbD) (v1 v2 n0 n1 : Value) (W : World) : Prop where
  row : WayRow W w.heap.size 51 v1 rs
  probs : ProbsRow W w.heap.size v2 ps
  net : NetIn W M w.heap.size N n0 n1
  apart : ∀ g, v1.ownBlock = some g → n0.ownBlock ≠ some g
  below : Below M w W
theorem EInv8.start {M : Nat} {w : World} (h : Box2 w M 66 (.slice none 0 0) (.slice none 0 0)) : EInv8 M w [] ([], []) [] (.slice none 0 0) (.slice none 0 0) (.slice none 0 0) (.slice none 0 0) w :=
  ⟨World.ownsRow_nil _ _ _ _, World.ownsRow_nil _ _ _ _, ⟨h, World.ownsRow_nil _ _ _ _, World.ownsRow_nil _ _ _ _⟩, fun g e => (by simp [Value.ownBlock] at e), Below.refl _ _⟩
section
variable {M : Nat} {w W W' : World} {rs : List WayD} {N N' : NetD} {ps : List ProbD} {v1 v2 n0 n1 : Value}
theorem own_ne {S : Nat → Prop} {B e z n : Nat} {v : Value} {xs : List Value} (h : W.ownsRow B e z v n xs) (k : W.grownBy W' none ∨ ∃ row, W.grownBy W' row ∧ ∀ g, v.ownBlock = some g → row ≠ some g) : W'.ownsRow B e z v n xs := by
  rcases k with k | ⟨row, k, hr⟩
  · exact World.ownsRow.kept h k (by cases hv : v.ownBlock with | none => exact .inl rfl | some g => exact .inr (fun e => by cases e))
  · refine World.ownsRow.kept h k ?_
    cases hv : v.ownBlock with
    | none => exact .inl rfl
    | some g => exact .inr (fun e => hr g hv e.symm)
theorem EInv8.under (h : EInv8 M w rs N ps v1 v2 n0 n1 W) (hM : M < w.heap.size) (hb : Below W.heap.size W W') : EInv8 M w rs N ps v1 v2 n0 n1 W' :=
  ⟨row_under h.row hb, row_under h.probs hb, ⟨h.net.box.next hb, row_under h.net.ways hb, row_under h.net.strs hb⟩, h.apart, h.below.trans (hb.mono (by have := h.net.box.lt; omega))⟩
/-- A way more in the network. -/
theorem EInv8.add {m0 m1 : Value} (h : EInv8 M w rs N ps v1 v2 n0 n1 W) (hM : M < w.heap.size) (hn : NetIn W' M w.heap.size N' m0 m1) (hp : Past (NetS M n0 n1) W W') (h0 : Moved W n0 m0) : EInv8 M w rs N' ps v1 v2 m0 m1 W' := by
  have hlo : ∀ {e z n : Nat} {v : Value} {xs : List Value}, W.ownsRow w.heap.size e z v n xs → ∀ g, v.ownBlock = some g → w.heap.size ≤ g ∧ g < W.heap.size := fun h => World.ownsRow.lt h
  refine ⟨row_past h.row hp (fun g e k => ?_), row_past h.probs hp (fun g e k => ?_), hn, fun g e k => ?_, ?_⟩
  · rcases k with k | k | k
    · have := hlo h.row g e; omega
    · exact h.apart g e k
    · exact kinds_ne8 h.row h.net.strs (by decide) g e k
  · rcases k with k | k | k
    · have := hlo h.probs g e; omega
    · exact kinds_ne8 h.probs h.net.ways (by decide) g e k
    · exact kinds_ne8 h.probs h.net.strs (by decide) g e k
  · rcases h0 with h0 | ⟨j, h0, hj⟩
    · exact h.apart g e (h0 ▸ k)
    · rw [h0] at k
      injection k with k
      have := hlo h.row g e
      omega
  · refine h.below.trans ⟨hp.os, hp.tape, hp.output, hp.size, fun k hk => hp.block k (by have := h.net.box.lt; omega) (fun e => ?_)⟩
    rcases e with e | e | e
    · omega
    · have := hlo h.net.ways k e; omega
    · have := hlo h.net.strs k e; omega
/-- One problem more. -/
theorem EInv8.prob {v2' : Value} {p : ProbD} (h : EInv8 M w rs N ps v1 v2 n0 n1 W) (hM : M < w.heap.size) (hown : ProbsRow W' w.heap.size v2' (ps ++ [p])) (hg : W.grownBy W' v2.ownBlock) : EInv8 M w rs N (ps ++ [p]) v1 v2' n0 n1 W' := by
  have hlo : ∀ g, v2.ownBlock = some g → w.heap.size ≤ g := fun g e => (World.ownsRow.lt h.probs g e).1
  refine ⟨own_ne (S := fun _ => True) h.row (.inr ⟨_, hg, fun g e => kinds_ne8 h.row h.probs (by decide) g e⟩), hown, ⟨h.net.box.kept (hg.block M h.net.box.lt (fun e => by have := hlo M e.symm; omega)), own_ne (S := fun _ => True) h.net.ways (.inr ⟨_, hg, fun g e => kinds_ne8 h.net.ways h.probs (by decide) g e⟩), own_ne (S := fun _ => True) h.net.strs (.inr ⟨_, hg, fun g e => kinds_ne8 h.net.strs h.probs (by decide) g e⟩)⟩, h.apart, h.below.grown hg (by have := h.net.box.lt; omega) (fun k e => by have := hlo k e; omega)⟩
/-- One way more in the list that is returned. -/
theorem EInv8.way {v1' : Value} {r : WayD} (h : EInv8 M w rs N ps v1 v2 n0 n1 W) (hM : M < w.heap.size) (hown : WayRow W' w.heap.size 51 v1' (rs ++ [r])) (hg : W.grownBy W' v1.ownBlock) (hmv : Moved W v1 v1') : EInv8 M w (rs ++ [r]) N ps v1' v2 n0 n1 W' := by
  have hlo : ∀ g, v1.ownBlock = some g → w.heap.size ≤ g := fun g e => (World.ownsRow.lt h.row g e).1
  refine ⟨hown, own_ne (S := fun _ => True) h.probs (.inr ⟨_, hg, fun g e => kinds_ne8 h.probs h.row (by decide) g e⟩), ⟨h.net.box.kept (hg.block M h.net.box.lt (fun e => by have := hlo M e.symm; omega)), own_ne (S := fun _ => True) h.net.ways (.inr ⟨_, hg, fun g e k => h.apart g k e⟩), own_ne (S := fun _ => True) h.net.strs (.inr ⟨_, hg, fun g e => kinds_ne8 h.net.strs h.row (by decide) g e⟩)⟩, fun g e k => ?_, h.below.grown hg (by have := h.net.box.lt; omega) (fun k e => by have := hlo k e; omega)⟩
  rcases hmv with h0 | ⟨j, h0, hj⟩
  · exact h.apart g (h0 ▸ e) k
  · rw [h0] at e
    injection e with e
    have := (World.ownsRow.lt h.net.ways g k).2
    omega
end
theorem four_new8 (w : World) (a b c d : Int) (T : TypeId) : ∀ (j : Nat) (u : Value), ([.int .i64 a, .int .i64 b, .int .i64 c, .int .i64 d] : List Value)[j]? = some u → (w.alloc (.cells #[.int .i64 a, .int .i64 b, .int .i64 c, .int .i64 d] T)).cell? ((⟨w.heap.size, 0, none⟩ : Addr).add j) = some u := by
  intro j u h
  rw [Addr.add_lit, Lib.cell_of_heap (heap_alloc_new w _), Nat.zero_add]
  match j, h with
  | 0, h => exact h
  | 1, h => exact h
  | 2, h => exact h
  | 3, h => exact h
  | j + 4, h => simp at h
theorem prob_one (p : ProbD) : ∀ u ∈ probVs p, u.oneCell' = true := by
  intro u hu
  simp [probVs] at hu
  rcases hu with rfl | rfl | rfl | rfl <;> rfl
/-- What reading entries leaves behind. -/
def EntsOut8 (M : Nat) (o : NetD × List ProbD) (w : World) (e : Ending) (w' : World) : Prop := ∃ v1 v2 n0 n1, e = .returned (.tuple #[v1, v2]) ∧ EInv8 M w o.1.1 o.1 o.2 v1 v2 n0 n1 w'
end Go.Proofs.YtocmbifljkcmeaaDoor

set_option linter.unusedVariables false
namespace Go.Proofs.YtocmbifljkcmeaaDoor
open Go Go.Proofs Go.RowKit Go.Lib

theorem addW_ok {N N' : NetD} {r : WayD} (h : addW N r = (N', 0)) : N' = (N.1 ++ [r], names2 N.2 r) := by
  unfold addW at h
  split at h
  · injection h with _ h; simp at h
  · split at h
    · injection h with _ h; simp at h
    · split at h
      · injection h with _ h; simp at h
      · injection h with h _; exact h.symm
theorem addW_no {N N' : NetD} {r : WayD} {e : Int} (h : addW N r = (N', e)) (he : e ≠ 0) : N' = N := by
  unfold addW at h
  split at h
  · injection h with h _; exact h.symm
  · split at h
    · injection h with h _; exact h.symm
    · split at h
      · injection h with h _; exact h.symm
      · injection h with _ h; exact absurd h.symm he
theorem slice_len {w : World} {B e z n m c : Nat} {A : Option Addr} {xs : List Value} (h : w.ownsRow B e z (.slice A m c) n xs) : n = m := by
  rcases h.2 with ⟨hv, h0⟩ | ⟨g, cap, cur, hv, _⟩
  · injection hv with _ h1 _; omega
  · injection hv with _ h1 _; omega
set_option maxHeartbeats 16000000 in
set_option maxRecDepth 100000 in
theorem entries8_any (A : Option Addr) (l : List RecD) (c M : Nat) (w : World) (hM : M < w.heap.size) (h : RecsIn w (fun k => k < M) A l) (hl : l.length ≤ 1073741824)
    (hE : ∀ W, Below M w W → Env8 W) (hK : Box2 w M 66 (.slice none 0 0) (.slice none 0 0)) :
    Calls Tryd.prog 36 #[.slice A l.length c, .int .i64 3, .func (.func 37) #[] #[], .func (.func 38) #[.pointer (some ⟨M, 0, none⟩)] #[]] w (EntsOut8 M (recsW l) w) := by
  obtain ⟨i4, hi4, hz4, hs4, hb4⟩ := info_parts infoProb
  obtain ⟨i5, hi5, hz5, hs5, hb5⟩ := info_parts infoWay
  have ea : ∀ args w, (callFunc 38 args).run Tryd.prog w = .ok (.enter 38 args) w := enters_of Tryd.func38 (by kernel_rfl) rfl
  have hI0 := EInv8.start (M := M) hK
  have HH := hid h
  have HE := hid hE
  have HI0 := hid hI0
  clear h hE hK hI0
  unfold EntsOut8
  go_enter Tryd.func36, Tryd.ntmps36
  go_wp2
  go_loopw [10, 11, 13, 19] (fun u1 u2 _ iv wr => ∃ (i : Nat) (A1 : Option Addr) (n1 c1 : Nat) (A2 : Option Addr) (n2 c2 : Nat), u1 = .slice A1 n1 c1 ∧ u2 = .slice A2 n2 c2 ∧ iv = .int .i64 (i : Int) ∧ i ≤ l.length ∧ Hid (∃ m0 m1, EInv8 M w (recsW (l.take i)).1.1 (recsW (l.take i)).1 (recsW (l.take i)).2 (.slice A1 n1 c1) (.slice A2 n2 c2) m0 m1 wr)) (fun _ _ _ iv _ => l.length - (RowKit.intOf iv).toNat)
  case atStart => exact ⟨0, _, _, _, _, _, _, rfl, rfl, rfl, Nat.zero_le _, hid ⟨_, _, HI0.out⟩⟩
  case round =>
    obtain ⟨i, A1, n1, c1, A2, n2, c2, rfl, rfl, rfl, hi, hI'⟩ := hrel
    obtain ⟨m0, m1, hIo⟩ := hI'.out
    have hI := hid hIo
    clear hI' hIo
    have hMs : M < wr.heap.size := hI.out.net.box.lt
    have HMS := hid hMs
    have hws := hI.out.below.size
    have HWS := hid hws
    clear hMs hws
    by_cases hlt : i < l.length
    · have hltz : (i : Int) < (l.length : Int) := by omega
      obtain ⟨fb, fo, A', c', rfl, hfb, hfi, hc1, hc2, y0, y1⟩ := HH.out.at_ hlt
      have kc : ∀ o : Nat, wr.cell? ⟨fb, o, none⟩ = w.cell? ⟨fb, o, none⟩ := fun o => hI.out.below.cell (p := ⟨fb, o, none⟩) hfb
      rw [← kc] at y0 y1
      have hst := recsW_take l i hlt
      have hnl := recsW_net (l.take i)
      rw [List.length_take] at hnl
      have hpl := recsW_probs (l.take i)
      rw [List.length_take] at hpl
      obtain ⟨⟨⟨ws, bs⟩, ps⟩, hst0⟩ : ∃ S, recsW (l.take i) = S := ⟨_, rfl⟩
      rw [hst0] at hst hnl hpl hI
      obtain ⟨⟨line, fs⟩, hx⟩ : ∃ X, l[i] = X := ⟨_, rfl⟩
      rw [hx] at hfi hc1 y0 y1 hst
      dsimp only at hfi hc1 y0 y1 hst hnl hpl hI
      have hb8 : bs.length ≤ 8 := hnl.b
      have hwl : ws.length ≤ i := by have := hnl.w; dsimp only at this; omega
      obtain ⟨F, hF⟩ : ∃ F, fs.length = F := ⟨_, rfl⟩
      have hw1 := (Below.refl wr.heap.size wr).alloc (Nat.le_refl _) (.cells #[.int .i64 line, .slice A' F c'] 41)
      have e1 := heap_alloc_new wr (.cells #[.int .i64 line, .slice A' F c'] 41)
      have hs1 : (wr.alloc (.cells #[.int .i64 line, .slice A' F c'] 41)).heap.size = wr.heap.size + 1 := by simp
      have x0 : (wr.alloc (.cells #[.int .i64 line, .slice A' F c'] 41)).cell? ⟨wr.heap.size, 0, none⟩ = some (.int .i64 line) := by rw [Lib.cell_of_heap e1]; rfl
      have x1 : (wr.alloc (.cells #[.int .i64 line, .slice A' F c'] 41)).cell? ⟨wr.heap.size, 1, none⟩ = some (.slice A' F c') := by rw [Lib.cell_of_heap e1]; rfl
      have hMw1 : Below M w (wr.alloc (.cells #[.int .i64 line, .slice A' F c'] 41)) := hI.out.below.trans (hw1.mono (Nat.le_of_lt HMS.out))
      have cE := readEntry8_any A' fs c' M (wr.alloc (.cells #[.int .i64 line, .slice A' F c'] 41)) (by rw [hs1]; have := HMS.out; omega) (hfi.below hMw1) hc1 hc2
        (fun W hb => HE.out W (hMw1.trans (hb.mono (by rw [hs1]; have := HMS.out; omega))))
      rw [hF] at cE y1
      unfold EntryOut8 at cE
      obtain ⟨⟨r, col, e0⟩, hen⟩ : ∃ S, entryW fs = S := ⟨_, rfl⟩
      have hrec : recW ((ws, bs), ps) (line, fs) = if e0 ≠ 0 then ((ws, bs), ps ++ [(line, col, e0)]) else if (addW (ws, bs) r).2 ≠ 0 then ((ws, bs), ps ++ [(line, col, (addW (ws, bs) r).2)]) else ((addW (ws, bs) r).1, ps) := by unfold recW; rw [hen]
      rw [hrec] at hst
      rw [hen] at cE
      have CE := hid cE
      have HST := hid hst
      have HI := hid hI.out
      have HE1 := hid e1
      have HW1 := hid hw1
      have HS1 := hid hs1
      clear hst hst0 hI e1 hw1 hs1 hx hfi hen hrec kc cE hMw1 hF hnl
      go_wp2_with fail
      generalize wr.alloc (.cells #[.int .i64 line, .slice A' F c'] 41) = w1 at CE HE1 HW1 HS1 x0 x1 ⊢
      refine CE.out.mono ?_
      rintro e w2 ⟨rfl, hb2⟩
      have hvs : wayV r = .agg #[.string (ba r.1), .string (ba r.2.1), .int .i64 r.2.2] := rfl
      have HVS := hid hvs
      rw [hvs]
      have hw3 := (Below.refl w2.heap.size w2).alloc (Nat.le_refl _) (.cells #[.string (ba r.1), .string (ba r.2.1), .int .i64 r.2.2] 51)
      have hB3 := Box3.new w2 51 (.string (ba r.1)) (.string (ba r.2.1)) (.int .i64 r.2.2)
      have hs3 : (w2.alloc (.cells #[.string (ba r.1), .string (ba r.2.1), .int .i64 r.2.2] 51)).heap.size = w2.heap.size + 1 := by simp
      obtain ⟨X1, hX1⟩ : ∃ z, ba r.1 = z := ⟨_, rfl⟩
      obtain ⟨X2, hX2⟩ : ∃ z, ba r.2.1 = z := ⟨_, rfl⟩
      rw [hX1, hX2] at hw3 hB3 hs3 HVS ⊢
      have HX12 : Hid (wayVs r = [.string X1, .string X2, .int .i64 r.2.2]) := hid (by unfold wayVs; rw [hX1, hX2])
      obtain ⟨w3, hw3e⟩ : ∃ w3, w2.alloc (.cells #[.string X1, .string X2, .int .i64 r.2.2] 51) = w3 := ⟨_, rfl⟩
      rw [hw3e] at hw3 hB3 hs3
      have hb13 : Below wr.heap.size wr w3 := HW1.out.trans ((hb2.mono (by rw [HS1.out]; omega)).trans (hw3.mono (by have := hb2.size; have := HW1.out.size; omega)))
      have hI3 := HI.out.under hM hb13
      have x03 : w3.cell? ⟨wr.heap.size, 0, none⟩ = some (.int .i64 line) := by
        rw [hw3.cell (p := ⟨wr.heap.size, 0, none⟩) (by have := hb2.size; have := HS1.out; show wr.heap.size < w2.heap.size; omega), hb2.cell (p := ⟨wr.heap.size, 0, none⟩) (by have := HS1.out; show wr.heap.size < w1.heap.size; omega)]
        exact x0
      have hz3 : wr.heap.size < w3.heap.size := by have := hb2.size; have := HS1.out; omega
      have HI3 := hid hI3
      have HB3 := hid hB3
      have HZ3 := hid hz3
      have HS3 := hid hs3
      have HZ2 := hid hb2.size
      clear hI3 hB3 hb13 hw3 hb2 x0 x1 hvs hz3 hs3 hX1 hX2
      by_cases he : e0 = 0
      · subst he
        have hst := HST.out
        rw [if_neg (by simp)] at hst
        have cA := add8_any M w.heap.size (ws, bs) r m0 m1 w3 hM (by have := HWS.out; have := HZ3.out; omega) HI3.out.net hb8 (by show ws.length ≤ _; omega)
        unfold AddOut8 at cA
        rw [HVS.out] at cA
        obtain ⟨⟨N', e1⟩, hae⟩ : ∃ e1, addW (ws, bs) r = e1 := ⟨_, rfl⟩
        rw [hae] at cA hst
        have HAE := hid hae
        dsimp only at cA hst
        have CA := hid cA
        have y0' := HB3.out.c0
        have y1' := HB3.out.c1
        have y2' := HB3.out.c2
        clear cA hae
        by_cases he2 : e1 = 0
        · subst he2
          rw [if_neg (by simp)] at hst
          have HSTF := hid hst
          clear hst
          go_wp2_with fail
          refine CA.out.mono ?_
          rintro e w4 ⟨rfl, m0', m1', hn4, hp4, hmv0, hmv1⟩
          have hI4 := HI3.out.add hM hn4 hp4 hmv0
          have hNS : ∀ k, wr.heap.size ≤ k → ¬ NetS M m0 m1 k := fun k hk hS => by
            rcases hS with e | e | e
            · have := HMS.out; omega
            · have := (World.ownsRow.lt HI.out.net.ways k e).2; omega
            · have := (World.ownsRow.lt HI.out.net.strs k e).2; omega
          have hB4 := HB3.out.kept (hp4.block w2.heap.size (by have := HS3.out; omega) (hNS _ (by have := HZ2.out; have := HS1.out; omega)))
          have hN' := addW_ok HAE.out
          dsimp only at hN'
          have hrz : ws.length = n1 := slice_len hI4.row
          have hrow4 : w4.ownsRow w.heap.size 51 3 (.slice A1 n1 c1) n1 (wayVals ws) := by have := hI4.row; unfold WayRow at this; rw [hrz] at this; exact this
          have HMX : Hid (n1 + 1 ≤ maxLen) := hid (by unfold maxLen; omega)
          have HBY : Hid ((n1 + 1) * 40 ≤ 140737488355328) := hid (by omega)
          have HO0 := hid hrow4
          have HRZ := hid hrz
          have HI4 := hid hI4
          have HNN := hid hN'
          have HN5 : Hid (∀ (j : Nat) (u : Value), ([.string X1, .string X2, .int .i64 r.2.2] : List Value)[j]? = some u → (w4.alloc (.cells #[.string X1, .string X2, .int .i64 r.2.2] 51)).cell? ((⟨w4.heap.size, 0, none⟩ : Addr).add j) = some u) := hid (three_new w4 _ _ _ _)
          have HON : Hid (∀ u ∈ ([.string X1, .string X2, .int .i64 r.2.2] : List Value), u.oneCell' = true) := hid (by rw [← HX12.out]; exact way_one r)
          have HW4S : Hid (w.heap.size ≤ (w4.alloc (.cells #[.string X1, .string X2, .int .i64 r.2.2] 51)).heap.size) := hid (by have := HWS.out; have := hp4.size; have := HZ3.out; simp; omega)
          have z0' := hB4.c0
          have z1' := hB4.c1
          have z2' := hB4.c2
          clear hn4 hp4 hmv0 hmv1 hI4 hB4 hrow4 hrz hN' hNS y0' y1' y2'
          go_wp2_with (at_builtin; refine wpList_append_own_at _ rfl _ _ 64 rfl w.heap.size 51 i5 (.agg #[.string ⟨#[]⟩, .string ⟨#[]⟩, .int .i64 0]) 3 40 Tryd.underlying64 hi5 hz5 hs5 hb5 rfl (by decide) _ n1 (wayVals ws) rfl (World.ownsRow.alloc HO0.out _) ⟨w4.heap.size, 0, none⟩ 1 1 [.string X1, .string X2, .int .i64 r.2.2] rfl rfl HN5.out HON.out HMX.out HBY.out HW4S.out ?_)
          intro v' w5 hown' hgrow hnil hat
          obtain ⟨g', cap', rfl⟩ := ownsRow_succ (k := n1) hown'
          have hI5 := HI4.out.way (r := r) (v1' := .slice (some ⟨g', 0, none⟩) (n1 + 1) cap') hM (by unfold WayRow; rw [wayVals_app, List.length_append, HRZ.out]; simpa [wayVals, HX12.out] using hown') (grownBy_of_alloc hgrow) (hat.imp id (fun h => ⟨_, h, by simp⟩))
          have HI5 : Hid (∃ m0 m1, EInv8 M w (recsW (l.take (i + 1))).1.1 (recsW (l.take (i + 1))).1 (recsW (l.take (i + 1))).2 (.slice (some ⟨g', 0, none⟩) (n1 + 1) cap') (.slice A2 n2 c2) m0 m1 w5) := hid ⟨_, _, by rw [HSTF.out]; dsimp only; rw [HNN.out] at hI5 ⊢; exact hI5⟩
          clear hI5 hown' hgrow hnil hat
          go_wp2_with fail
          go_roundw
          case rel => exact ⟨i + 1, _, _, _, _, _, _, rfl, rfl, by go_num, by omega, HI5⟩
          case measure => simp [RowKit.intOf]; omega
        · rw [if_pos he2] at hst
          have HSTF := hid hst
          have HNE := hid he2
          clear hst
          go_wp2_with fail
          refine CA.out.mono ?_
          rintro e w4 ⟨rfl, m0', m1', hn4, hp4, hmv0, hmv1⟩
          have hI4 := HI3.out.add hM hn4 hp4 hmv0
          have hNS : ∀ k, wr.heap.size ≤ k → ¬ NetS M m0 m1 k := fun k hk hS => by
            rcases hS with e | e | e
            · have := HMS.out; omega
            · have := (World.ownsRow.lt HI.out.net.ways k e).2; omega
            · have := (World.ownsRow.lt HI.out.net.strs k e).2; omega
          have hN' := addW_no HAE.out HNE.out
          rw [hN'] at hI4
          have x04 : w4.cell? ⟨wr.heap.size, 0, none⟩ = some (.int .i64 line) := (World.cell?_of_block (w := w3) (hp4.block wr.heap.size HZ3.out (hNS _ (Nat.le_refl _)))).trans x03
          have HI4 := hid hI4
          have HWZ := hid (show w.heap.size ≤ w4.heap.size by have := HWS.out; have := hp4.size; have := HZ3.out; omega)
          have hne2 : (e1 != 0) = true := by simpa using HNE.out
          clear hn4 hp4 hmv0 hmv1 hI4 hN' hNS y0' y1' y2'
          have hpz : ps.length = n2 := slice_len HI4.out.probs
          have HMX : Hid (n2 + 1 ≤ maxLen) := hid (by unfold maxLen; omega)
          have HBY : Hid ((n2 + 1) * 32 ≤ 140737488355328) := hid (by omega)
          have hprow : ProbsRow w4 w.heap.size (.slice A2 n2 c2) ps := HI4.out.probs
          unfold ProbsRow at hprow
          rw [hpz] at hprow
          have HPR := hid hprow
          have HPZ := hid hpz
          have HN4 : Hid (∀ (j : Nat) (u : Value), (probVs (line, col, e1))[j]? = some u → (w4.alloc (.cells #[.int .i64 0, .int .i64 line, .int .i64 col, .int .i64 e1] 78)).cell? ((⟨w4.heap.size, 0, none⟩ : Addr).add j) = some u) := hid (four_new8 w4 0 line col e1 78)
          have HON : Hid (∀ u ∈ probVs (line, col, e1), u.oneCell' = true) := hid (prob_one (line, col, e1))
          have HW3S : Hid (w.heap.size ≤ (w4.alloc (.cells #[.int .i64 0, .int .i64 line, .int .i64 col, .int .i64 e1] 78)).heap.size) := hid (by have := HWZ.out; simp; omega)
          clear hprow hpz
          go_wp2_with (at_builtin; (try rw [hw3e]); refine wpList_append_own_at _ rfl _ _ 42 rfl w.heap.size 78 i4 (.agg #[.int .i64 0, .int .i64 0, .int .i64 0, .int .i64 0]) 4 32 Tryd.underlying42 hi4 hz4 hs4 hb4 rfl (by decide) _ n2 (probVals ps) rfl (World.ownsRow.alloc HPR.out _) ⟨w4.heap.size, 0, none⟩ 1 1 (probVs (line, col, e1)) rfl rfl HN4.out HON.out HMX.out HBY.out HW3S.out ?_)
          intro v' w5 hown' hgrow hnil hat
          obtain ⟨g', cap', rfl⟩ := ownsRow_succ (k := n2) hown'
          have hI5 := HI4.out.prob (p := (line, col, e1)) hM (v2' := .slice (some ⟨g', 0, none⟩) (n2 + 1) cap') (by unfold ProbsRow; rw [probVals_app, List.length_append, HPZ.out]; simpa [probVals] using hown') (grownBy_of_alloc hgrow)
          have HI5 : Hid (∃ m0 m1, EInv8 M w (recsW (l.take (i + 1))).1.1 (recsW (l.take (i + 1))).1 (recsW (l.take (i + 1))).2 (.slice A1 n1 c1) (.slice (some ⟨g', 0, none⟩) (n2 + 1) cap') m0 m1 w5) := hid ⟨_, _, by rw [HSTF.out]; exact hI5⟩
          clear hI5 hown' hgrow hnil hat
          go_wp2_with fail
          go_roundw
          case rel => exact ⟨i + 1, _, _, _, _, _, _, rfl, rfl, by go_num, by omega, HI5⟩
          case measure => simp [RowKit.intOf]; omega
      · have hst := HST.out
        rw [if_pos he] at hst
        have HSTF := hid hst
        clear hst
        have hne : (e0 == 0) = false := by simpa using he
        have HNE := hid he
        have hne2 : (e0 != 0) = true := by simpa using HNE.out
        have HWZ := hid (show w.heap.size ≤ w3.heap.size by have := HWS.out; have := HZ3.out; omega)
        have hpz : ps.length = n2 := slice_len HI3.out.probs
        have HMX : Hid (n2 + 1 ≤ maxLen) := hid (by unfold maxLen; omega)
        have HBY : Hid ((n2 + 1) * 32 ≤ 140737488355328) := hid (by omega)
        have hprow : ProbsRow w3 w.heap.size (.slice A2 n2 c2) ps := HI3.out.probs
        unfold ProbsRow at hprow
        rw [hpz] at hprow
        have HPR := hid hprow
        have HPZ := hid hpz
        have HN4 : Hid (∀ (j : Nat) (u : Value), (probVs (line, col, e0))[j]? = some u → (w3.alloc (.cells #[.int .i64 0, .int .i64 line, .int .i64 col, .int .i64 e0] 78)).cell? ((⟨w3.heap.size, 0, none⟩ : Addr).add j) = some u) := hid (four_new8 w3 0 line col e0 78)
        have HON : Hid (∀ u ∈ probVs (line, col, e0), u.oneCell' = true) := hid (prob_one (line, col, e0))
        have HW3S : Hid (w.heap.size ≤ (w3.alloc (.cells #[.int .i64 0, .int .i64 line, .int .i64 col, .int .i64 e0] 78)).heap.size) := hid (by have := HWZ.out; simp; omega)
        clear hprow hpz
        go_wp2_with (at_builtin; (try rw [hw3e]); refine wpList_append_own_at _ rfl _ _ 42 rfl w.heap.size 78 i4 (.agg #[.int .i64 0, .int .i64 0, .int .i64 0, .int .i64 0]) 4 32 Tryd.underlying42 hi4 hz4 hs4 hb4 rfl (by decide) _ n2 (probVals ps) rfl (World.ownsRow.alloc HPR.out _) ⟨w3.heap.size, 0, none⟩ 1 1 (probVs (line, col, e0)) rfl rfl HN4.out HON.out HMX.out HBY.out HW3S.out ?_)
        intro v' w5 hown' hgrow hnil hat
        obtain ⟨g', cap', rfl⟩ := ownsRow_succ (k := n2) hown'
        have hI5 := HI3.out.prob (p := (line, col, e0)) hM (v2' := .slice (some ⟨g', 0, none⟩) (n2 + 1) cap') (by unfold ProbsRow; rw [probVals_app, List.length_append, HPZ.out]; simpa [probVals] using hown') (grownBy_of_alloc hgrow)
        have HI5 : Hid (∃ m0 m1, EInv8 M w (recsW (l.take (i + 1))).1.1 (recsW (l.take (i + 1))).1 (recsW (l.take (i + 1))).2 (.slice A1 n1 c1) (.slice (some ⟨g', 0, none⟩) (n2 + 1) cap') m0 m1 w5) := hid ⟨_, _, by rw [HSTF.out]; exact hI5⟩
        clear hI5 hown' hgrow hnil hat
        go_wp2_with fail
        go_roundw
        case rel => exact ⟨i + 1, _, _, _, _, _, _, rfl, rfl, by go_num, by omega, HI5⟩
        case measure => simp [RowKit.intOf]; omega
    · have hltz : ¬ (i : Int) < (l.length : Int) := by omega
      rw [List.take_of_length_le (by omega)] at hI
      go_wp2
      go_ret2
      exact ⟨_, _, rfl, _, _, hI.out⟩
end Go.Proofs.YtocmbifljkcmeaaDoor

set_option linter.unusedVariables false
namespace Go.Proofs.YtocmbifljkcmeaaDoor
open Go Go.Proofs Go.RowKit Go.Lib

/-- What reading ways leaves behind. -/
def ReadOut8 (o : TabD × List ProbD) (w : World) (e : Ending) (w' : World) : Prop :=
  (∃ A c S d v2, e = .returned (.tuple #[.agg #[.slice A o.1.1.length c, .slice S o.1.2.length d], v2]) ∧ TravIn w' (fun b => w.heap.size ≤ b ∧ b < w'.heap.size) A S o.1 ∧ o.1.1.length ≤ c ∧ c ≤ 9223372036854775807 ∧ ProbsRow w' w.heap.size v2 o.2) ∧ Below w.heap.size w w'
theorem row_low8 {w : World} {e z n B B' : Nat} {v : Value} {xs : List Value} (h : w.ownsRow B e z v n xs) (hB : B' ≤ B) : w.ownsRow B' e z v n xs := by
  refine ⟨h.1, ?_⟩
  rcases h.2 with h2 | ⟨g, cap, cur, hv, hg, r⟩
  · exact .inl h2
  · exact .inr ⟨g, cap, cur, hv, Nat.le_trans hB hg, r⟩
set_option maxHeartbeats 8000000 in
set_option maxRecDepth 100000 in
theorem read8_any (A : Option Addr) (l : List RecD) (c : Nat) (w : World) (h : RecsIn w (fun k => k < w.heap.size) A l) (hl : l.length ≤ 1073741824) (hE : Env8 w) :
    Calls Tryd.prog 16 #[.slice A l.length c] w (ReadOut8 (readT l) w) := by
  have hr1 := Box2.new w 25 (.slice none 0 0) (.slice none 0 0)
  have hb1 := (Below.refl w.heap.size w).alloc (Nat.le_refl _) (.cells #[.slice none 0 0, .slice none 0 0] 25)
  have hs1 : (w.alloc (.cells #[.slice none 0 0, .slice none 0 0] 25)).heap.size = w.heap.size + 1 := by simp
  obtain ⟨w1, hw1⟩ : ∃ W, w.alloc (.cells #[.slice none 0 0, .slice none 0 0] 25) = W := ⟨_, rfl⟩
  rw [hw1] at hr1 hb1 hs1
  have hn2 := Box2.new w1 66 (.slice none 0 0) (.slice none 0 0)
  have hb2 := (Below.refl w1.heap.size w1).alloc (Nat.le_refl _) (.cells #[.slice none 0 0, .slice none 0 0] 66)
  have hs2 : (w1.alloc (.cells #[.slice none 0 0, .slice none 0 0] 66)).heap.size = w1.heap.size + 1 := by simp
  obtain ⟨w2, hw2⟩ : ∃ W, w1.alloc (.cells #[.slice none 0 0, .slice none 0 0] 66) = W := ⟨_, rfl⟩
  rw [hw2] at hn2 hb2 hs2
  have hb12 : Below w.heap.size w w2 := hb1.trans (hb2.mono (by omega))
  have hr2 := hr1.next hb2
  have cE := entries8_any A l c w1.heap.size w2 (by omega) ((h.below hb12).mono (fun k hk => by omega)) hl (fun W hb => hE.below (hb12.trans (hb.mono (by omega))) hE.size) hn2
  have CE := hid cE
  have HR2 := hid hr2
  have HB2 := hid hb12
  have HS1 := hid hs1
  have HS2 := hid hs2
  obtain ⟨L, hL⟩ : ∃ L, l.length = L := ⟨_, rfl⟩
  have HL := hid hL
  rw [hL] at CE
  rw [hL]
  unfold ReadOut8 readT
  unfold EntsOut8 at CE
  have hnet := recsW_net l
  obtain ⟨⟨N, ps⟩, hR⟩ : ∃ R, recsW l = R := ⟨_, rfl⟩
  rw [hR] at CE hnet
  rw [hR]
  dsimp only at CE hnet ⊢
  have HNET := hid hnet
  clear h hE hr1 hb1 hn2 hb2 hr2 hb12 cE hL hnet hR hs1 hs2
  go_enter Tryd.func16, Tryd.ntmps16
  go_upto_region 1 with fail
  (try rw [hw1])
  clear hw1
  go_wp2_with fail
  refine CE.out.mono ?_
  rintro e w3 ⟨v1, v2, n0, n1, rfl, hI⟩
  have hM : w1.heap.size < w2.heap.size := by have := HS2.out; omega
  have hnl : N.1.length ≤ 1073741824 := Nat.le_trans HNET.out.w hl
  have cT := table_any w1.heap.size w2.heap.size l.length N n0 n1 w3 hM hI.below.size hI.net HNET.out hnl
  unfold TabOut8 at cT
  have CT := hid cT
  have HI := hid hI
  have HM := hid hM
  obtain ⟨A1, c1, rfl, _, _, _⟩ := hI.net.strs.strsIn
  clear hI cT hM hnl CE
  go_wp2_with fail
  refine CT.out.mono ?_
  rintro e w4 ⟨⟨S, d, rfl, hd1, hd2, htab⟩, hb4⟩
  have hb34 : Below w.heap.size w w4 := (HB2.out.trans (HI.out.below.mono (by have := HS1.out; omega))).trans (hb4.mono (by have := HB2.out.size; have := HI.out.below.size; omega))
  have hr4 := (HR2.out.kept (HI.out.below.block w.heap.size (by have := HS1.out; omega))).next hb4
  have hst4 : S3.StrRow w4 w2.heap.size (.slice A1 N.2.length c1) N.2 := row_under HI.out.net.strs hb4
  have hpr4 : ProbsRow w4 w2.heap.size v2 ps := row_under HI.out.probs hb4
  obtain ⟨r0, r1⟩ := And.intro hr4.c0 hr4.c1
  have f0 := hr4.free 0
  have f1 := hr4.free 1
  have HR4 := hid hr4
  have HB34 := hid hb34
  have HST4 := hid hst4
  have HPR4 := hid hpr4
  have HTAB := hid htab
  obtain ⟨nb, hnb⟩ : ∃ n, N.2.length = n := ⟨_, rfl⟩
  have HNB := hid hnb
  rw [hnb] at hd1 ⊢
  clear hr4 hb34 hst4 hpr4 htab hnb hb4 CT HR2
  go_wp2
  have hz := HR4.out.set (.slice A1 nb c1) (.slice S nb d)
  have hk : ∀ b, b ≠ w.heap.size → ((w4.setCell ⟨w.heap.size, 0, none⟩ (.slice A1 nb c1)).setCell ⟨w.heap.size, 1, none⟩ (.slice S nb d)).heap[b]? = w4.heap[b]? := fun b hb => by
    rw [heap_setCell_other _ _ _ _ (by show b ≠ w.heap.size; omega), heap_setCell_other _ _ _ _ (by show b ≠ w.heap.size; omega)]
  obtain ⟨A2, c2, he2, hc1, hc2, hin⟩ := HST4.out.strsIn
  have hw2s : w.heap.size < w2.heap.size := by have := HS1.out; have := HM.out; omega
  have hw3s := HI.out.below.size
  injection he2 with e1 e2 e3
  subst e1
  subst e3
  have hlen : (tabF (tabW N) N.2.length).length = nb := by rw [tabF_len, HNB.out]
  refine bodyPost_ret (v := .tuple #[.agg #[.slice A1 nb c1, .slice S nb d], v2]) (results_ct rfl _ _ _ ⟨w.heap.size, 0, none⟩ _ _ rfl rfl (loadTrav hz.c0 hz.c1)) rfl ⟨⟨A1, c1, S, d, v2, by rw [hlen, HNB.out], ⟨?_, ?_⟩, by rw [HNB.out] at hc1; rw [HNB.out]; exact hc1, hc2, ?_⟩, (HB34.out.setCell (p := ⟨w.heap.size, 0, none⟩) (Nat.le_refl _) _).setCell (p := ⟨w.heap.size, 1, none⟩) (Nat.le_refl _) _⟩
  · exact (hin.kept (fun b hb => hk b (by omega))).mono (fun b hb => ⟨by omega, by simpa using hb.2⟩)
  · exact (HTAB.out.kept (fun b hb => hk b (by omega))).mono (fun b hb => ⟨by omega, by simpa using hb.2⟩)
  · refine row_low8 ?_ (Nat.le_of_lt hw2s)
    exact own_block HPR4.out (fun g hg => hk g (by have := (World.ownsRow.lt HPR4.out g hg).1; omega))
end Go.Proofs.YtocmbifljkcmeaaDoor

set_option linter.unusedVariables false
namespace Go.Proofs.YtocmbifljkcmeaaDoor.S3
open Go Go.Proofs Go.RowKit Go.Lib

theorem lst_get8 (s : ByteArray) (j : Nat) (h : j < s.size) : (lst s)[j]? = some (s[j]'h) := by
  have : j < s.data.size := h
  show s.data.toList[j]? = _
  rw [Array.getElem?_toList, Array.getElem?_eq_getElem this]
  rfl

set_option maxHeartbeats 4000000 in
set_option maxRecDepth 100000 in
theorem num_snoc8 (l : Str) (x : UInt8) : numN (l ++ [x]) = 10 * numN l + (x.toNat - 48) := by
  unfold numN
  rw [List.foldl_append]
  rfl
set_option maxHeartbeats 4000000 in
set_option maxRecDepth 100000 in
theorem number8_any (s : ByteArray) (hs : s.size ≤ 16) (hd : Dgs (lst s)) (w : World) : Calls Tryd.prog 66 #[.string s] w fun e w' => e = .returned (.int .i64 (numN (lst s) : Int)) ∧ w = w' := by
  have hN : ∀ k (h : k < s.size), numN ((lst s).take (k + 1)) = 10 * numN ((lst s).take k) + ((s[k]'h).toNat - 48) ∧ 48 ≤ (s[k]'h).toNat ∧ (s[k]'h).toNat ≤ 57 := fun k h => by
    have hg := lst_get8 s k h
    have h1 := dg_val (hd _ (List.mem_of_getElem? hg))
    refine ⟨?_, h1⟩
    rw [← num_snoc8, List.take_add_one, hg]
    rfl
  have hL : ∀ k, k ≤ s.size → numN ((lst s).take k) < 10000000000000001 := fun k h => by
    have h1 := numN_lt ((lst s).take k) (fun c hc => hd c (List.mem_of_mem_take hc))
    have h2 : 10 ^ ((lst s).take k).length ≤ 10 ^ 16 := Nat.pow_le_pow_right (by omega) (by simp; omega)
    have h3 : 10 ^ 16 = 10000000000000000 := by decide
    omega
  have hE : numN (lst s) = numN ((lst s).take s.size) := by rw [List.take_of_length_le (by rw [← Lib.size_eq]; exact Nat.le_refl _)]
  have HN := hid hN
  have HL := hid hL
  have HE := hid hE
  clear hN hL hE hd
  rw [HE.out]
  go_enter Tryd.func66, Tryd.ntmps66
  go_wp2
  go_loop [3, 4] (fun v i => ∃ k n : Nat, k ≤ s.size ∧ i = .int .i64 (k : Int) ∧ v = .int .i64 (n : Int) ∧ Hid (numN ((lst s).take k) = n)) (fun _ i => s.size - (RowKit.intOf i).toNat)
  case atStart => exact ⟨0, 0, Nat.zero_le _, rfl, rfl, hid rfl⟩
  case round =>
    obtain ⟨k, n, hk, rfl, rfl, hv⟩ := hrel
    by_cases hlt : k < s.size
    · obtain ⟨h1, h2, h3⟩ := HN.out k hlt
      have h4 := HL.out k hk
      rw [hv.out] at h1 h4
      have hz : (k : Int) < (s.size : Int) := by omega
      obtain ⟨x, hx⟩ : ∃ x, s[k]'hlt = x := ⟨_, rfl⟩
      rw [hx] at h1 h2 h3
      have q1 : IntKind.u8.wrap ((x.toNat : Int) - 48) = (x.toNat : Int) - 48 := by simp [IntKind.wrap, IntKind.bits, IntKind.signed]; omega
      have q2 : IntKind.i64.wrap ((x.toNat : Int) - 48) = (x.toNat : Int) - 48 := IntWalk.i64_in _ (by omega)
      have q3 : IntKind.i64.wrap (10 * (n : Int)) = 10 * (n : Int) := IntWalk.i64_in _ (by omega)
      have q4 : IntKind.i64.wrap (10 * (n : Int) + ((x.toNat : Int) - 48)) = 10 * (n : Int) + ((x.toNat : Int) - 48) := IntWalk.i64_in _ (by omega)
      have H1 := hid h1
      clear h1
      go_wp2
      go_roundw
      case rel => exact ⟨k + 1, 10 * n + (x.toNat - 48), by omega, by go_num, by congr 1; omega, H1⟩
      case measure => simp [RowKit.intOf]; omega
    · obtain rfl : k = s.size := by omega
      go_wp2
      go_ret
      exact ⟨by rw [hv.out]; rfl, rfl⟩
end Go.Proofs.YtocmbifljkcmeaaDoor.S3
namespace Go.Proofs.YtocmbifljkcmeaaDoor
open Go Go.Proofs Go.RowKit Go.Lib
set_option maxHeartbeats 4000000 in
set_option maxRecDepth 100000 in
theorem digits2_any (s : ByteArray) (w : World) : Calls Tryd.prog 58 #[.string s, .int .i64 2, .bool false] w fun e w' => e = .returned (.tuple #[.int .i64 (numT (lst s)).1, .bool (numT (lst s)).2]) ∧ w = w' := by
  obtain ⟨R, hR⟩ : ∃ R, numT (lst s) = R := ⟨_, rfl⟩
  rw [hR]
  have hlen : (lst s).length = s.size := (Lib.size_eq s).symm
  have hno : ∀ h : ¬ (lst s ≠ [] ∧ (lst s).length ≤ 2 ∧ (lst s).all S3.dg = true), R = (0, false) := fun h => by rw [← hR]; exact if_neg h
  by_cases h0 : 0 < s.size
  · obtain ⟨r, hr⟩ := lst_cons8 h0
    have hs1 : ¬ (s.size : Int) < 1 := by omega
    by_cases h4 : s.size ≤ 2
    · have hs4 : ¬ (2 : Int) < (s.size : Int) := by omega
      have HNO := hid hno
      have HLEN := hid hlen
      have HALL : Hid ((lst s).all S3.dg = true → R = (((S3.numN (lst s) : Nat) : Int), true)) := hid (fun k => by
        rw [← hR]
        exact if_pos ⟨by rw [hr]; simp, by rw [hlen]; exact h4, k⟩)
      clear hR hno hlen hr
      go_enter Tryd.func58, Tryd.ntmps58
      go_wp2
      go_loop [8] (fun iv => ∃ k : Nat, iv = .int .i64 (k : Int) ∧ k ≤ s.size ∧ Hid (∀ j (h : j < s.size), j < k → S3.dg (s[j]'h) = true)) (fun iv => s.size - (RowKit.intOf iv).toNat)
      case atStart => exact ⟨0, rfl, Nat.zero_le _, hid (fun j _ h => absurd h (Nat.not_lt_zero _))⟩
      case round =>
        obtain ⟨k, rfl, hk, hE⟩ := hrel
        by_cases hlt : k < s.size
        · have hltz : (k : Int) < (s.size : Int) := by omega
          have cD := S3.digit_any (s[k]'hlt)
          have hmem : s[k]'hlt ∈ lst s := List.mem_of_getElem? (S3.lst_get8 s k hlt)
          obtain ⟨x, hx⟩ : ∃ x, s[k]'hlt = x := ⟨_, rfl⟩
          rw [hx] at cD hmem
          have HXX := hid hx
          clear hx
          cases hv : S3.dg x with
          | false =>
            rw [hv] at cD
            obtain rfl := HNO.out (fun q => by have := List.all_eq_true.1 q.2.2 x hmem; rw [hv] at this; cases this)
            clear hv hmem
            have CD := hid cD
            clear cD
            go_wp2_with fail
            (try rw [HXX.out])
            refine (CD.out _).mono ?_
            rintro e w' ⟨rfl, rfl⟩
            go_wp2
            go_ret2
            exact ⟨rfl, rfl⟩
          | true =>
            rw [hv] at cD
            have hst : Hid (∀ j (h : j < s.size), j < k + 1 → S3.dg (s[j]'h) = true) := hid (fun j hj hji => by
              by_cases e : j < k
              · exact hE.out j hj e
              · obtain rfl : j = k := by omega
                rw [HXX.out]
                exact hv)
            clear hv hmem
            have CD := hid cD
            clear cD
            go_wp2_with fail
            (try rw [HXX.out])
            refine (CD.out _).mono ?_
            rintro e w' ⟨rfl, rfl⟩
            go_wp2
            go_round
            case rel => exact ⟨k + 1, by go_num, by omega, hst⟩
            case measure => simp [RowKit.intOf]; omega
        · have hltz : ¬ (k : Int) < (s.size : Int) := by omega
          have hd : S3.Dgs (lst s) := fun c hc => by
            obtain ⟨j, hj, e⟩ := List.mem_iff_getElem.1 hc
            have hj' : j < s.size := by rw [← HLEN.out]; exact hj
            have h1 := S3.lst_get8 s j hj'
            rw [List.getElem?_eq_getElem hj, e] at h1
            injection h1 with h1
            rw [h1]
            exact hE.out j hj' (by omega)
          have cN := S3.number8_any s (by omega) hd w
          obtain rfl := HALL.out (List.all_eq_true.2 hd)
          have CN := hid cN
          clear cN hd
          go_wp2_with fail
          refine CN.out.mono ?_
          rintro e w' ⟨rfl, rfl⟩
          go_wp2
          go_ret2
          exact ⟨rfl, rfl⟩
    · have hs4 : (2 : Int) < (s.size : Int) := by omega
      obtain rfl := hno (fun k => by have := k.2.1; rw [hlen] at this; omega)
      clear hno hlen hR hr
      go_enter Tryd.func58, Tryd.ntmps58
      go_wp2
      go_ret2
      exact ⟨rfl, rfl⟩
  · have hs1 : (s.size : Int) < 1 := by omega
    obtain rfl := hno (fun k => k.1 (List.eq_nil_of_length_eq_zero (by rw [hlen]; omega)))
    clear hno hlen hR
    go_enter Tryd.func58, Tryd.ntmps58
    go_wp2
    go_ret2
    exact ⟨rfl, rfl⟩
end Go.Proofs.YtocmbifljkcmeaaDoor

