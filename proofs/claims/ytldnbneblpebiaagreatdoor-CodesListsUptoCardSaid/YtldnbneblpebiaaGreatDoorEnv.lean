/-
  What the library's variables hold, and a code taken apart: the program's divide. Conditions: the library's variables hold what its text lays; the string has at most 16 bytes.
-/
import Derived.Test.YtldnbneblpebiaaGreatDoorNum
import Derived.Test.YtldnbneblpebiaaGreatDoorC6
import Derived.Shelf.Strings.SlTrimAscii
import Derived.Lib.AtoiErrMem
import Derived.Handy
import Derived.Laws.ResultCell
import Derived.RegionTactic
set_option linter.unusedVariables false
namespace Go.Proofs.YtldnbneblpebiaaGreatDoor
open Go Go.Proofs Go.RowKit Go.Lib

/-- The library's variables. -/
structure Env (w : World) : Prop where
  m : ∃ m, w.cell? ⟨0, 0, none⟩ = some (.int .i64 m)
  ev : ∃ ev, w.cell? ⟨3, 0, none⟩ = some ev ∧ (ev = .nilIface ∨ ∃ te pe, ev = .iface te pe)
  tab : Lib.TabIs Tryz.prog w "internal/strconv.uint64pow10" .u64 Lib.pow10Tab
  size : 8 ≤ w.heap.size
theorem gTab : Tryz.prog.globalNamed "internal/strconv.uint64pow10" = some 5 := by kernel_rfl
theorem var_below {B g : Nat} {W W' : World} {n : String} {cs : Array Value} (h : Below B W W') (hg : Tryz.prog.globalNamed n = some g) (hgB : g < B) (hv : W.var? Tryz.prog n = some cs) : W'.var? Tryz.prog n = some cs := by
  unfold World.var? at hv ⊢
  simp only [hg, Option.bind_some] at hv ⊢
  rw [h.block g hgB]
  exact hv
theorem Env.below {w w' : World} (h : Env w) (hb : Below w.heap.size w w') : Env w' := by
  obtain ⟨m, hm⟩ := h.m
  obtain ⟨ev, he, hk⟩ := h.ev
  have hs := h.size
  exact ⟨⟨m, (hb.cell (p := ⟨0, 0, none⟩) (by show 0 < w.heap.size; omega)).trans hm⟩, ⟨ev, (hb.cell (p := ⟨3, 0, none⟩) (by show 3 < w.heap.size; omega)).trans he, hk⟩,
    var_below hb gTab (by omega) h.tab, Nat.le_trans hs hb.size⟩

theorem trimR_any (s : ByteArray) (hs : s.size ≤ 9223372036854775807) (w : World) :
    Calls Tryz.prog 76 #[.string s, .string ⟨#[48, 49, 50, 51, 52, 53, 54, 55, 56, 57]⟩] w fun e w' => e = .returned (.string ⟨(preS (lst s)).toArray⟩) ∧ Below w.heap.size w w' := by
  have h := Any.strings_TrimRight_laid Tryz.lays162 (by kernel_rfl) s ⟨#[48, 49, 50, 51, 52, 53, 54, 55, 56, 57]⟩ w hs (by decide) (fun j b hb => by
    have := List.mem_of_getElem? hb
    simp at this
    rcases this with rfl | rfl | rfl | rfl | rfl | rfl | rfl | rfl | rfl | rfl <;> decide)
  rw [show (⟨#[48, 49, 50, 51, 52, 53, 54, 55, 56, 57]⟩ : ByteArray).data.toList = [48, 49, 50, 51, 52, 53, 54, 55, 56, 57] from rfl, trim_pre] at h
  exact h

theorem results_ct {fn : Func} {p u : Tmp} {A : TypeId} (h : fn.results = #[.cell p A, .tmp u]) (tmps : Array Value) (P : Program) (w : World) (a : Addr) (va vc : Value)
    (ha : tmps.getD p undef = .pointer (some a)) (hc : tmps.getD u undef = vc)
    (hla : (loadVar A a).run P w = .ok va w) : (results fn tmps).run P w = .ok (.tuple #[va, vc]) w := by
  rw [Array.getD_eq_getD_getElem?] at ha hc
  simp only [results, h]
  simp [Result.andThen, ha, hc, hla, asAddr]
theorem load75 {w : World} {k : Nat} {x y z : Value} (h0 : w.cell? ⟨k, 0, none⟩ = some x) (h1 : w.cell? ⟨k, 1, none⟩ = some y) (h2 : w.cell? ⟨k, 2, none⟩ = some z) : (loadVar 75 ⟨k, 0, none⟩).run Tryz.prog w = .ok (.agg #[x, y, z]) w := by
  simp [loadVar, go_sem, h0, h1, h2]
theorem lst_from (s : ByteArray) (P : ByteArray) (hP : lst P = preS (lst s)) : lst (s.extract P.size s.size) = lastS (lst s) := by
  rw [lst_extract, List.take_of_length_le (by rw [← Lib.size_eq]; exact Nat.le_refl _)]
  unfold lastS
  rw [← hP, show P.size = (lst P).length from Lib.size_eq P]
/-- The last number, 0 if there is none. -/
def numL (s : Str) : Nat := numN (lastS s)
def divV (P : ByteArray) (s : Str) : Value := .agg #[.string P, .int .i64 (numL s : Int), .int .i64 ((lastS s).length : Int)]
def hasL (s : Str) : Bool := !(lastS s).isEmpty
/-- What divide hands back. -/
def DivOut (s : Str) (w : World) (e : Ending) (w' : World) : Prop := (∃ P : ByteArray, e = .returned (.tuple #[divV P s, .bool (hasL s)]) ∧ lst P = preS s) ∧ Below w.heap.size w w'

theorem three_set {w : World} {k : Nat} {a b c : Value} {T : TypeId} (h : w.heap[k]? = some (.cells #[a, b, c] T (0, 0))) (x y z : Value) :
    (((w.setCell ⟨k, 0, none⟩ x).setCell ⟨k, 1, none⟩ y).setCell ⟨k, 2, none⟩ z).heap[k]? = some (.cells #[x, y, z] T (0, 0)) := by
  have h1 := heap_setCell_same w k 0 _ _ x h
  have h2 := heap_setCell_same _ k 1 _ _ y h1
  have h3 := heap_setCell_same _ k 2 _ _ z h2
  rw [h3]
  rfl
theorem div_end {s : Str} {w W : World} {P : ByteArray} {a : Act} {ok : Bool} {n wd : Int} (ha : a.tmps.getD 2 undef = .pointer (some ⟨w.heap.size, 0, none⟩)) (hc : a.tmps.getD 3 undef = .bool ok) (hd : a.defers = [])
    (hz : W.heap[w.heap.size]? = some (.cells #[.string P, .int .i64 n, .int .i64 wd] 75 (0, 0))) (hv : divV P s = .agg #[.string P, .int .i64 n, .int .i64 wd]) (hb : hasL s = ok) (hP : lst P = preS s) (hB : Below w.heap.size w W) :
    bodyPost Tryz.prog Tryz.f62 (DivOut s w) Exit.ret a W := by
  refine bodyPost_ret (v := .tuple #[divV P s, .bool (hasL s)]) (results_ct rfl _ _ _ ⟨w.heap.size, 0, none⟩ _ _ ha (by rw [hb]; exact hc) ?_) hd ⟨⟨P, rfl, hP⟩, hB⟩
  rw [hv]
  exact load75 (by rw [Lib.cell_of_heap hz]; rfl) (by rw [Lib.cell_of_heap hz]; rfl) (by rw [Lib.cell_of_heap hz]; rfl)

set_option maxHeartbeats 4000000 in
set_option maxRecDepth 100000 in
theorem divide_any (s : ByteArray) (hs : s.size ≤ 16) (w : World) (hE : Env w) : Calls Tryz.prog 62 #[.string s] w (DivOut (lst s) w) := by
  have hsl : (lst s).length ≤ 16 := by rw [← Lib.size_eq]; exact hs
  obtain ⟨P, hP0⟩ : ∃ P : ByteArray, (⟨(preS (lst s)).toArray⟩ : ByteArray) = P := ⟨_, rfl⟩
  have hP : lst P = preS (lst s) := by rw [← hP0]
  have cT := trimR_any s (by omega)
  rw [hP0] at cT
  have hsp := pre_split (lst s)
  have hpl : (preS (lst s)).length ≤ (lst s).length := by
    have := congrArg List.length hsp
    rw [List.length_append] at this
    omega
  have hPs : P.size ≤ s.size := by rw [show P.size = (lst P).length from Lib.size_eq P, hP, show s.size = (lst s).length from Lib.size_eq s]; exact hpl
  have hX := lst_from s P hP
  obtain ⟨X, hXd⟩ : ∃ X, s.extract P.size s.size = X := ⟨_, rfl⟩
  rw [hXd] at hX
  have hXs : X.size ≤ 16 := by rw [← hXd, ByteArray.size_extract]; omega
  have hXl : X.size = (lastS (lst s)).length := by rw [← hX]; exact Lib.size_eq X
  have hPz : (P.size : Int) ≤ (s.size : Int) := by omega
  have hdg := last_dgs (lst s)
  have HP := hid hP
  have HX := hid hX
  have HXL := hid hXl
  have HE := hid hE
  have hsub : ∀ w : World, Below w.heap.size w (w.alloc (.cells #[.string ⟨#[]⟩, .int .i64 0, .int .i64 0] 75)) := fun w => (Below.refl _ w).alloc (Nat.le_refl _) _
  have HS := hid hsub
  clear hP0 hP hsp hpl hX hXl hE hsub hsl
  by_cases h0 : lastS (lst s) = []
  · have hn : Hid (divV P (lst s) = .agg #[.string P, .int .i64 0, .int .i64 (X.size : Int)]) := hid (by unfold divV numL; rw [HXL.out, h0]; rfl)
    have hb : Hid (hasL (lst s) = false) := hid (by unfold hasL; rw [h0]; rfl)
    have ha : Lib.atoi (lst X) = none := by rw [HX.out, h0]; rfl
    obtain ⟨ev, hev, hev2⟩ := HE.out.ev
    have HEV := hid hev
    have hsz := HE.out.size
    clear h0 hdg hev
    go_enter Tryz.func62, Tryz.ntmps62
    go_wp2_with fail
    have HB0 := HS.out w
    have hz0 : (w.alloc (.cells #[.string ⟨#[]⟩, .int .i64 0, .int .i64 0] 75)).heap[w.heap.size]? = some (.cells #[.string ⟨#[]⟩, .int .i64 0, .int .i64 0] 75 (0, 0)) := heap_alloc_new w _
    have hzs : w.heap.size < (w.alloc (.cells #[.string ⟨#[]⟩, .int .i64 0, .int .i64 0] 75)).heap.size := by simp
    have HB0' := hid HB0
    have HZ0 := hid hz0
    clear HB0 hz0
    generalize w.alloc (.cells #[.string ⟨#[]⟩, .int .i64 0, .int .i64 0] 75) = w1 at HB0' HZ0 hzs ⊢
    refine (cT _).mono ?_
    rintro e w2 ⟨rfl, hb2⟩
    have HZ2 := hid ((hb2.block _ hzs).trans HZ0.out)
    have HB2 := hid (HB0'.out.trans (hb2.mono HB0'.out.size))
    have hzs2 : w.heap.size < w2.heap.size := Nat.lt_of_lt_of_le hzs hb2.size
    clear hb2 HZ0 HB0'
    go_wp2_with fail
    have cA := Tryz.strconv_Atoi_err X (by omega) ha ev w2 ((HB2.out.cell (p := ⟨3, 0, none⟩) (by show 3 < w.heap.size; omega)).trans HEV.out) hev2
    have CA := hid cA
    clear cA ha cT
    refine CA.out.mono ?_
    rintro e w3 ⟨N, rfl, _, _, hb3⟩
    have hz3 := (hb3.block _ hzs2).trans HZ2.out
    have HB3 := hid (HB2.out.trans (hb3.mono HB2.out.size))
    have z0 : w3.cell? ⟨w.heap.size, 0, none⟩ = some (.string ⟨#[]⟩) := by rw [Lib.cell_of_heap hz3]; rfl
    have z1 : w3.cell? ⟨w.heap.size, 1, none⟩ = some (.int .i64 0) := by rw [Lib.cell_of_heap hz3]; rfl
    have z2 : w3.cell? ⟨w.heap.size, 2, none⟩ = some (.int .i64 0) := by rw [Lib.cell_of_heap hz3]; rfl
    have f : ∀ j, w3.frozen? ⟨w.heap.size, j, none⟩ = false := fun j => by simp [World.frozen?, hz3]
    have f0 := f 0
    have f1 := f 1
    have f2 := f 2
    have HZ3 := hid hz3
    clear f hz3 hb3 HZ2 CA
    go_wp2
    go_region
    all_goals
      go_wp2
      exact div_end rfl rfl rfl (three_set HZ3.out _ _ _) hn.out hb.out HP.out ((((HB3.out.setCell (p := ⟨w.heap.size, 0, none⟩) (Nat.le_refl _) _).setCell (p := ⟨w.heap.size, 1, none⟩) (Nat.le_refl _) _).setCell (p := ⟨w.heap.size, 2, none⟩) (Nat.le_refl _) _)).drew
  · obtain ⟨n, hnn⟩ : ∃ n, numL (lst s) = n := ⟨_, rfl⟩
    have hn : Hid (divV P (lst s) = .agg #[.string P, .int .i64 (n : Int), .int .i64 (X.size : Int)]) := hid (by unfold divV; rw [HXL.out, hnn])
    have hb : Hid (hasL (lst s) = true) := hid (by unfold hasL; simpa using h0)
    have ha : Lib.atoi (lst X) = some (n : Int) := by rw [HX.out, ← hnn]; exact atoi_num _ h0 hdg
    clear h0 hdg hnn
    go_enter Tryz.func62, Tryz.ntmps62
    go_wp2_with fail
    have HB0 := HS.out w
    have hz0 : (w.alloc (.cells #[.string ⟨#[]⟩, .int .i64 0, .int .i64 0] 75)).heap[w.heap.size]? = some (.cells #[.string ⟨#[]⟩, .int .i64 0, .int .i64 0] 75 (0, 0)) := heap_alloc_new w _
    have hzs : w.heap.size < (w.alloc (.cells #[.string ⟨#[]⟩, .int .i64 0, .int .i64 0] 75)).heap.size := by simp
    have HB0' := hid HB0
    have HZ0 := hid hz0
    clear HB0 hz0
    generalize w.alloc (.cells #[.string ⟨#[]⟩, .int .i64 0, .int .i64 0] 75) = w1 at HB0' HZ0 hzs ⊢
    refine (cT _).mono ?_
    rintro e w2 ⟨rfl, hb2⟩
    have HZ2 := hid ((hb2.block _ hzs).trans HZ0.out)
    have HB2 := hid (HB0'.out.trans (hb2.mono HB0'.out.size))
    have hzs2 : w.heap.size < w2.heap.size := Nat.lt_of_lt_of_le hzs hb2.size
    clear hb2 HZ0 HB0'
    go_wp2_with fail
    have cA := Tryz.strconv_Atoi X n (by omega) ha w2
    have CA := hid cA
    clear cA ha cT
    refine CA.out.mono ?_
    rintro e w3 ⟨rfl, t, hw3⟩
    have hb3 : Below w2.heap.size w2 w3 := by rw [hw3]; exact Lib.bytesWorld_below _ _ _
    clear hw3
    have hz3 := (hb3.block _ hzs2).trans HZ2.out
    have HB3 := hid (HB2.out.trans (hb3.mono HB2.out.size))
    have z0 : w3.cell? ⟨w.heap.size, 0, none⟩ = some (.string ⟨#[]⟩) := by rw [Lib.cell_of_heap hz3]; rfl
    have z1 : w3.cell? ⟨w.heap.size, 1, none⟩ = some (.int .i64 0) := by rw [Lib.cell_of_heap hz3]; rfl
    have z2 : w3.cell? ⟨w.heap.size, 2, none⟩ = some (.int .i64 0) := by rw [Lib.cell_of_heap hz3]; rfl
    have f : ∀ j, w3.frozen? ⟨w.heap.size, j, none⟩ = false := fun j => by simp [World.frozen?, hz3]
    have f0 := f 0
    have f1 := f 1
    have f2 := f 2
    have HZ3 := hid hz3
    clear f hz3 hb3 HZ2 CA
    go_wp2
    go_region
    all_goals
      go_wp2
      exact div_end rfl rfl rfl (three_set HZ3.out _ _ _) hn.out hb.out HP.out ((((HB3.out.setCell (p := ⟨w.heap.size, 0, none⟩) (Nat.le_refl _) _).setCell (p := ⟨w.heap.size, 1, none⟩) (Nat.le_refl _) _).setCell (p := ⟨w.heap.size, 2, none⟩) (Nat.le_refl _) _)).drew
end Go.Proofs.YtldnbneblpebiaaGreatDoor
