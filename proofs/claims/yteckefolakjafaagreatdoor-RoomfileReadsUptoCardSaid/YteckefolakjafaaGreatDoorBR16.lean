/-
  Natural order: the program's Compare. Conditions: the strings fit into memory.
  What the library's variables hold, and a code taken apart: the program's divide. Conditions: the library's variables hold what its text lays; the string has at most 16 bytes.
  The code whose number is greater: the program's after. Conditions: the library's variables hold what its text lays; the numbers are small.
  How many codes a range has: the program's rangeLength. Conditions: the library's variables hold what its text lays; both strings have at most 16 bytes.
-/
import Derived.Test.YteckefolakjafaaGreatDoorBR15
import Derived.Shelf.Strings.SlTrimAscii
import Derived.Lib.AtoiErrMem
import Derived.Handy
import Derived.Laws.ResultCell
import Derived.RegionTactic
import Derived.Deep.RegionHeld3
set_option linter.unusedVariables false
namespace Go.Proofs.YteckefolakjafaaGreatDoor.S3
open Go Go.Proofs Go.RowKit Go.Lib

theorem str_no {s : ByteArray} (h : 0 < s.size) : (s.toList == []) = false ∧ (!s.toList.isEmpty) = true ∧ (s.toList != []) = true ∧ ¬ s.toList = [] := by
  have hne : s.toList ≠ [] := fun e => by
    rw [Lib.toList_data] at e
    rw [Lib.size_eq, e] at h
    simp at h
  refine ⟨by simpa using hne, by simpa using hne, by simpa using hne, hne⟩
theorem str_yes {s : ByteArray} (h : ¬ 0 < s.size) : (s.toList == []) = true ∧ (!s.toList.isEmpty) = false ∧ (s.toList != []) = false ∧ s.toList = [] := by
  have e : s.toList = [] := by
    rw [Lib.toList_data]
    exact List.eq_nil_of_length_eq_zero (by rw [← Lib.size_eq]; omega)
  refine ⟨by simpa using e, by simp [e], by simp [e], e⟩
theorem lst_ne {s : ByteArray} (h : 0 < s.size) : lst s ≠ [] := fun e => by
  have h' : 0 < (lst s).length := by rw [← Lib.size_eq]; exact h
  rw [e] at h'
  simp at h'
theorem lst_nil {s : ByteArray} (h : ¬ 0 < s.size) : lst s = [] := List.eq_nil_of_length_eq_zero (by rw [← Lib.size_eq]; omega)
theorem lex_end (X Y : ByteArray) (h : ¬ 0 < X.size ∨ ¬ 0 < Y.size) : lexC cmpE (elems (lst X)) (elems (lst Y)) = cmpI (X.size : Int) (Y.size : Int) := by
  by_cases hx : 0 < X.size
  · have hy : ¬ 0 < Y.size := h.resolve_left (fun e => e hx)
    rw [lst_nil hy, elems_cons _ (lst_ne hx)]
    unfold cmpI
    rw [if_neg (by omega), if_pos (by omega)]
    rfl
  · rw [lst_nil hx]
    by_cases hy : 0 < Y.size
    · rw [elems_cons _ (lst_ne hy)]
      unfold cmpI
      rw [if_pos (by omega)]
      rfl
    · rw [lst_nil hy]
      unfold cmpI
      rw [if_neg (by omega), if_neg (by omega)]
      rfl
theorem lex_step (X Y : Str) (hx : X ≠ []) (hy : Y ≠ []) : lexC cmpE (elems X) (elems Y) = if cmpE (X.take (elemN X)) (Y.take (elemN Y)) = 0 then lexC cmpE (elems (X.drop (elemN X))) (elems (Y.drop (elemN Y))) else cmpE (X.take (elemN X)) (Y.take (elemN Y)) := by
  rw [elems_cons X hx, elems_cons Y hy]
  rfl
theorem cmpM_or (a b : Str) : cmpM a b = orI (lexC cmpE (elems a) (elems b)) (compareBytes a b) := rfl
def strSize : Value → Nat
  | .string s => s.size
  | _ => 0

end Go.Proofs.YteckefolakjafaaGreatDoor.S3

set_option linter.unusedVariables false
namespace Go.Proofs.YteckefolakjafaaGreatDoor.S3
open Go Go.Proofs Go.RowKit Go.Lib

/-- The library's variables. -/
structure Env (w : World) : Prop where
  m : ∃ m, w.cell? ⟨5, 0, none⟩ = some (.int .i64 m)
  ev : ∃ ev, w.cell? ⟨6, 0, none⟩ = some ev ∧ (ev = .nilIface ∨ ∃ te pe, ev = .iface te pe)
  tab : Lib.TabIs Tryz.prog w "internal/strconv.uint64pow10" .u64 Lib.pow10Tab
  size : 6 < w.heap.size
theorem gTab : Tryz.prog.globalNamed "internal/strconv.uint64pow10" = some 3 := by kernel_rfl
theorem var_below {B g : Nat} {W W' : World} {n : String} {cs : Array Value} (h : Below B W W') (hg : Tryz.prog.globalNamed n = some g) (hgB : g < B) (hv : W.var? Tryz.prog n = some cs) : W'.var? Tryz.prog n = some cs := by
  unfold World.var? at hv ⊢
  simp only [hg, Option.bind_some] at hv ⊢
  rw [h.block g hgB]
  exact hv
theorem Env.below {w w' : World} (h : Env w) (hb : Below w.heap.size w w') : Env w' := by
  obtain ⟨m, hm⟩ := h.m
  obtain ⟨ev, he, hk⟩ := h.ev
  have hs := h.size
  exact ⟨⟨m, (hb.cell (p := ⟨5, 0, none⟩) (by show 5 < w.heap.size; omega)).trans hm⟩, ⟨ev, (hb.cell (p := ⟨6, 0, none⟩) (by show 6 < w.heap.size; omega)).trans he, hk⟩,
    var_below hb gTab (by omega) h.tab, Nat.le_trans hs hb.size⟩

theorem trimR_any (s : ByteArray) (hs : s.size ≤ 9223372036854775807) (w : World) :
    Calls Tryz.prog 122 #[.string s, .string ⟨#[48, 49, 50, 51, 52, 53, 54, 55, 56, 57]⟩] w fun e w' => e = .returned (.string ⟨(preS (lst s)).toArray⟩) ∧ Below w.heap.size w w' := by
  have h := Any.strings_TrimRight_laid Tryz.lays162 (by kernel_rfl) s ⟨#[48, 49, 50, 51, 52, 53, 54, 55, 56, 57]⟩ w hs (by decide) (fun j b hb => by
    have := List.mem_of_getElem? hb
    simp at this
    rcases this with rfl | rfl | rfl | rfl | rfl | rfl | rfl | rfl | rfl | rfl <;> decide)
  rw [show (⟨#[48, 49, 50, 51, 52, 53, 54, 55, 56, 57]⟩ : ByteArray).data.toList = [48, 49, 50, 51, 52, 53, 54, 55, 56, 57] from rfl, trim_pre] at h
  exact h

theorem results_ct {fn : Func} {p u : Tmp} {A : TypeId} (h : fn.results = #[.cell p A, .tmp u]) (tmps : Array Value) (P : Program) (w : World) (a : Addr) (va vc : Value)
    (ha : tmps.getD p undef = .pointer (some a)) (hc : tmps.getD u undef = vc)
    (hla : (loadVar A a).run P w = .ok va w) : (results fn tmps).run P w = .ok (.tuple #[va, vc]) w := by
  rw [Array.getD_eq_getD_getElem?] at ha hc
  simp only [results, h]
  simp [Result.andThen, ha, hc, hla, asAddr]
theorem loadNumb {w : World} {k : Nat} {x y z : Value} (h0 : w.cell? ⟨k, 0, none⟩ = some x) (h1 : w.cell? ⟨k, 1, none⟩ = some y) (h2 : w.cell? ⟨k, 2, none⟩ = some z) : (loadVar 123 ⟨k, 0, none⟩).run Tryz.prog w = .ok (.agg #[x, y, z]) w := by
  simp [loadVar, go_sem, h0, h1, h2]
theorem lst_from (s : ByteArray) (P : ByteArray) (hP : lst P = preS (lst s)) : lst (s.extract P.size s.size) = lastS (lst s) := by
  rw [lst_extract, List.take_of_length_le (by rw [← Lib.size_eq]; exact Nat.le_refl _)]
  unfold lastS
  rw [← hP, show P.size = (lst P).length from Lib.size_eq P]
/-- The last number, 0 if there is none. -/
def numL (s : Str) : Nat := numN (lastS s)
def divV (P : ByteArray) (s : Str) : Value := .agg #[.string P, .int .i64 (numL s : Int), .int .i64 ((lastS s).length : Int)]
def hasL (s : Str) : Bool := !(lastS s).isEmpty
/-- What divide hands back. -/
def DivOut (s : Str) (w : World) (e : Ending) (w' : World) : Prop := (∃ P : ByteArray, e = .returned (.tuple #[divV P s, .bool (hasL s)]) ∧ lst P = preS s) ∧ Below w.heap.size w w'

theorem three_set {w : World} {k : Nat} {a b c : Value} {T : TypeId} (h : w.heap[k]? = some (.cells #[a, b, c] T (0, 0))) (x y z : Value) :
    (((w.setCell ⟨k, 0, none⟩ x).setCell ⟨k, 1, none⟩ y).setCell ⟨k, 2, none⟩ z).heap[k]? = some (.cells #[x, y, z] T (0, 0)) := by
  have h1 := heap_setCell_same w k 0 _ _ x h
  have h2 := heap_setCell_same _ k 1 _ _ y h1
  have h3 := heap_setCell_same _ k 2 _ _ z h2
  rw [h3]
  rfl
theorem div_end {s : Str} {w W : World} {P : ByteArray} {a : Act} {ok : Bool} {n wd : Int} (ha : a.tmps.getD 2 undef = .pointer (some ⟨w.heap.size, 0, none⟩)) (hc : a.tmps.getD 3 undef = .bool ok) (hd : a.defers = [])
    (hz : W.heap[w.heap.size]? = some (.cells #[.string P, .int .i64 n, .int .i64 wd] 123 (0, 0))) (hv : divV P s = .agg #[.string P, .int .i64 n, .int .i64 wd]) (hb : hasL s = ok) (hP : lst P = preS s) (hB : Below w.heap.size w W) :
    bodyPost Tryz.prog Tryz.f93 (DivOut s w) Exit.ret a W := by
  refine bodyPost_ret (v := .tuple #[divV P s, .bool (hasL s)]) (results_ct rfl _ _ _ ⟨w.heap.size, 0, none⟩ _ _ ha (by rw [hb]; exact hc) ?_) hd ⟨⟨P, rfl, hP⟩, hB⟩
  rw [hv]
  exact loadNumb (by rw [Lib.cell_of_heap hz]; rfl) (by rw [Lib.cell_of_heap hz]; rfl) (by rw [Lib.cell_of_heap hz]; rfl)

set_option maxHeartbeats 4000000 in
set_option maxRecDepth 100000 in
theorem divide_any (s : ByteArray) (hs : s.size ≤ 16) (w : World) (hE : Env w) : Calls Tryz.prog 93 #[.string s] w (DivOut (lst s) w) := by
  have hsl : (lst s).length ≤ 16 := by rw [← Lib.size_eq]; exact hs
  obtain ⟨P, hP0⟩ : ∃ P : ByteArray, (⟨(preS (lst s)).toArray⟩ : ByteArray) = P := ⟨_, rfl⟩
  have hP : lst P = preS (lst s) := by rw [← hP0]
  have cT := trimR_any s (by omega)
  rw [hP0] at cT
  have hsp := pre_split (lst s)
  have hpl : (preS (lst s)).length ≤ (lst s).length := by
    have := congrArg List.length hsp
    rw [List.length_append] at this
    omega
  have hPs : P.size ≤ s.size := by rw [show P.size = (lst P).length from Lib.size_eq P, hP, show s.size = (lst s).length from Lib.size_eq s]; exact hpl
  have hX := lst_from s P hP
  obtain ⟨X, hXd⟩ : ∃ X, s.extract P.size s.size = X := ⟨_, rfl⟩
  rw [hXd] at hX
  have hXs : X.size ≤ 16 := by rw [← hXd, ByteArray.size_extract]; omega
  have hXl : X.size = (lastS (lst s)).length := by rw [← hX]; exact Lib.size_eq X
  have hPz : (P.size : Int) ≤ (s.size : Int) := by omega
  have hdg := last_dgs (lst s)
  have HP := hid hP
  have HX := hid hX
  have HXL := hid hXl
  have HE := hid hE
  have hsub : ∀ w : World, Below w.heap.size w (w.alloc (.cells #[.string ⟨#[]⟩, .int .i64 0, .int .i64 0] 123)) := fun w => (Below.refl _ w).alloc (Nat.le_refl _) _
  have HS := hid hsub
  clear hP0 hP hsp hpl hX hXl hE hsub hsl
  by_cases h0 : lastS (lst s) = []
  · have hn : Hid (divV P (lst s) = .agg #[.string P, .int .i64 0, .int .i64 (X.size : Int)]) := hid (by unfold divV numL; rw [HXL.out, h0]; rfl)
    have hb : Hid (hasL (lst s) = false) := hid (by unfold hasL; rw [h0]; rfl)
    have ha : Lib.atoi (lst X) = none := by rw [HX.out, h0]; rfl
    obtain ⟨ev, hev, hev2⟩ := HE.out.ev
    have HEV := hid hev
    have hsz := HE.out.size
    clear h0 hdg hev
    go_enter Tryz.func93, Tryz.ntmps93
    go_wp2_with fail
    have HB0 := HS.out w
    have hz0 : (w.alloc (.cells #[.string ⟨#[]⟩, .int .i64 0, .int .i64 0] 123)).heap[w.heap.size]? = some (.cells #[.string ⟨#[]⟩, .int .i64 0, .int .i64 0] 123 (0, 0)) := heap_alloc_new w _
    have hzs : w.heap.size < (w.alloc (.cells #[.string ⟨#[]⟩, .int .i64 0, .int .i64 0] 123)).heap.size := by simp
    have HB0' := hid HB0
    have HZ0 := hid hz0
    clear HB0 hz0
    generalize w.alloc (.cells #[.string ⟨#[]⟩, .int .i64 0, .int .i64 0] 123) = w1 at HB0' HZ0 hzs ⊢
    refine (cT _).mono ?_
    rintro e w2 ⟨rfl, hb2⟩
    have HZ2 := hid ((hb2.block _ hzs).trans HZ0.out)
    have HB2 := hid (HB0'.out.trans (hb2.mono HB0'.out.size))
    have hzs2 : w.heap.size < w2.heap.size := Nat.lt_of_lt_of_le hzs hb2.size
    clear hb2 HZ0 HB0'
    go_wp2_with fail
    have cA := Tryz.strconv_Atoi_err X (by omega) ha ev w2 ((HB2.out.cell (p := ⟨6, 0, none⟩) (by show 6 < w.heap.size; omega)).trans HEV.out) hev2
    have CA := hid cA
    clear cA ha cT
    refine CA.out.mono ?_
    rintro e w3 ⟨N, rfl, _, _, hb3⟩
    have hz3 := (hb3.block _ hzs2).trans HZ2.out
    have HB3 := hid (HB2.out.trans (hb3.mono HB2.out.size))
    have z0 : w3.cell? ⟨w.heap.size, 0, none⟩ = some (.string ⟨#[]⟩) := by rw [Lib.cell_of_heap hz3]; rfl
    have z1 : w3.cell? ⟨w.heap.size, 1, none⟩ = some (.int .i64 0) := by rw [Lib.cell_of_heap hz3]; rfl
    have z2 : w3.cell? ⟨w.heap.size, 2, none⟩ = some (.int .i64 0) := by rw [Lib.cell_of_heap hz3]; rfl
    have f : ∀ j, w3.frozen? ⟨w.heap.size, j, none⟩ = false := fun j => by simp [World.frozen?, hz3]
    have f0 := f 0
    have f1 := f 1
    have f2 := f 2
    have HZ3 := hid hz3
    clear f hz3 hb3 HZ2 CA
    go_wp2
    go_region
    all_goals
      go_wp2
      exact div_end rfl rfl rfl (three_set HZ3.out _ _ _) hn.out hb.out HP.out ((((HB3.out.setCell (p := ⟨w.heap.size, 0, none⟩) (Nat.le_refl _) _).setCell (p := ⟨w.heap.size, 1, none⟩) (Nat.le_refl _) _).setCell (p := ⟨w.heap.size, 2, none⟩) (Nat.le_refl _) _)).drew
  · obtain ⟨n, hnn⟩ : ∃ n, numL (lst s) = n := ⟨_, rfl⟩
    have hn : Hid (divV P (lst s) = .agg #[.string P, .int .i64 (n : Int), .int .i64 (X.size : Int)]) := hid (by unfold divV; rw [HXL.out, hnn])
    have hb : Hid (hasL (lst s) = true) := hid (by unfold hasL; simpa using h0)
    have ha : Lib.atoi (lst X) = some (n : Int) := by rw [HX.out, ← hnn]; exact atoi_num _ h0 hdg
    clear h0 hdg hnn
    go_enter Tryz.func93, Tryz.ntmps93
    go_wp2_with fail
    have HB0 := HS.out w
    have hz0 : (w.alloc (.cells #[.string ⟨#[]⟩, .int .i64 0, .int .i64 0] 123)).heap[w.heap.size]? = some (.cells #[.string ⟨#[]⟩, .int .i64 0, .int .i64 0] 123 (0, 0)) := heap_alloc_new w _
    have hzs : w.heap.size < (w.alloc (.cells #[.string ⟨#[]⟩, .int .i64 0, .int .i64 0] 123)).heap.size := by simp
    have HB0' := hid HB0
    have HZ0 := hid hz0
    clear HB0 hz0
    generalize w.alloc (.cells #[.string ⟨#[]⟩, .int .i64 0, .int .i64 0] 123) = w1 at HB0' HZ0 hzs ⊢
    refine (cT _).mono ?_
    rintro e w2 ⟨rfl, hb2⟩
    have HZ2 := hid ((hb2.block _ hzs).trans HZ0.out)
    have HB2 := hid (HB0'.out.trans (hb2.mono HB0'.out.size))
    have hzs2 : w.heap.size < w2.heap.size := Nat.lt_of_lt_of_le hzs hb2.size
    clear hb2 HZ0 HB0'
    go_wp2_with fail
    have cA := Tryz.strconv_Atoi X n (by omega) ha w2
    have CA := hid cA
    clear cA ha cT
    refine CA.out.mono ?_
    rintro e w3 ⟨rfl, t, hw3⟩
    have hb3 : Below w2.heap.size w2 w3 := by rw [hw3]; exact Lib.bytesWorld_below _ _ _
    clear hw3
    have hz3 := (hb3.block _ hzs2).trans HZ2.out
    have HB3 := hid (HB2.out.trans (hb3.mono HB2.out.size))
    have z0 : w3.cell? ⟨w.heap.size, 0, none⟩ = some (.string ⟨#[]⟩) := by rw [Lib.cell_of_heap hz3]; rfl
    have z1 : w3.cell? ⟨w.heap.size, 1, none⟩ = some (.int .i64 0) := by rw [Lib.cell_of_heap hz3]; rfl
    have z2 : w3.cell? ⟨w.heap.size, 2, none⟩ = some (.int .i64 0) := by rw [Lib.cell_of_heap hz3]; rfl
    have f : ∀ j, w3.frozen? ⟨w.heap.size, j, none⟩ = false := fun j => by simp [World.frozen?, hz3]
    have f0 := f 0
    have f1 := f 1
    have f2 := f 2
    have HZ3 := hid hz3
    clear f hz3 hb3 HZ2 CA
    go_wp2
    go_region
    all_goals
      go_wp2
      exact div_end rfl rfl rfl (three_set HZ3.out _ _ _) hn.out hb.out HP.out ((((HB3.out.setCell (p := ⟨w.heap.size, 0, none⟩) (Nat.le_refl _) _).setCell (p := ⟨w.heap.size, 1, none⟩) (Nat.le_refl _) _).setCell (p := ⟨w.heap.size, 2, none⟩) (Nat.le_refl _) _)).drew
end Go.Proofs.YteckefolakjafaaGreatDoor.S3

set_option linter.unusedVariables false
namespace Go.Proofs.YteckefolakjafaaGreatDoor.S3
open Go Go.Proofs Go.RowKit Go.Lib Go.Sort

theorem grow_below (w : World) (k : Nat) (os : Array Obj) : Below w.heap.size w (grow (w.drewN k) os) := by
  have h := below_drewN (Below.refl w.heap.size w) k
  refine ⟨h.os, h.tape, h.output, ?_, fun b hb => ?_⟩
  · show w.heap.size ≤ ((w.drewN k).heap ++ os).size
    have := h.size
    rw [Array.size_append]
    omega
  · show ((w.drewN k).heap ++ os)[b]? = _
    have := h.size
    rw [Array.getElem?_append_left (by omega)]
    exact h.block b hb
theorem repeat_zeros : ∀ k : Nat, Lib.repeatL [48] k = zerosS k := by
  intro k
  induction k with
  | zero => rfl
  | succ k ih => simp [Lib.repeatL, zerosS, List.replicate_succ] at ih ⊢; try exact ih
theorem lst_add (a b : ByteArray) : lst (a ++ b) = lst a ++ lst b := by simp [lst]

/-- What after hands back. -/
def StrOut (l : Str) (w : World) (e : Ending) (w' : World) : Prop := (∃ R : ByteArray, e = .returned (.string R) ∧ lst R = l) ∧ Below w.heap.size w w'
set_option maxHeartbeats 4000000 in
set_option maxRecDepth 100000 in
theorem after_any (P : ByteArray) (num wd n : Nat) (hP : P.size ≤ 16) (hn : num + n ≤ 1000000000000000000) (hw : wd ≤ 16) (w : World) (hE : Env w) :
    Calls Tryz.prog 94 #[.agg #[.string P, .int .i64 (num : Int), .int .i64 (wd : Int)], .int .i64 (n : Int)] w (StrOut (lst P ++ wrS (num + n) wd) w) := by
  have e1 : IntKind.i64.wrap ((num : Int) + (n : Int)) = ((num + n : Nat) : Int) := by rw [IntWalk.i64_in _ (by omega)]; omega
  have hlen := dec_len (num + n) 19 (by have : (10 : Nat) ^ 19 = 10000000000000000000 := by decide
                                        omega) (by omega)
  have cI := Tryz.strconv_Itoa ((num + n : Nat) : Int) (by omega) (by omega)
  obtain ⟨N, hN⟩ : ∃ N : ByteArray, (⟨(Lib.itoa ((num + n : Nat) : Int)).toArray⟩ : ByteArray) = N := ⟨_, rfl⟩
  have hNl : lst N = decDigits (num + n) := by
    rw [← hN]
    show Lib.itoa ((num + n : Nat) : Int) = _
    unfold Lib.itoa
    rw [if_neg (by omega), Int.toNat_natCast]
  rw [hN] at cI
  have hNs : N.size = (decDigits (num + n)).length := by rw [← hNl]; exact Lib.size_eq N
  have HN := hid hNl
  have HNS := hid hNs
  have hNs2 : N.size ≤ 19 := by omega
  have CI := hid cI
  have HE := hid hE
  obtain ⟨M, hM⟩ : ∃ M, num + n = M := ⟨_, rfl⟩
  rw [hM] at e1 CI HN HNS ⊢
  clear hN hNl hNs cI hE hlen
  go_enter Tryz.func94, Tryz.ntmps94
  have hba : Below w.heap.size w (w.alloc (.cells #[.string P, .int .i64 (num : Int), .int .i64 (wd : Int)] 123)) := (Below.refl _ w).alloc (Nat.le_refl _) _
  have hz0 : (w.alloc (.cells #[.string P, .int .i64 (num : Int), .int .i64 (wd : Int)] 123)).heap[w.heap.size]? = some (.cells #[.string P, .int .i64 (num : Int), .int .i64 (wd : Int)] 123 (0, 0)) := heap_alloc_new w _
  have hzs : w.heap.size < (w.alloc (.cells #[.string P, .int .i64 (num : Int), .int .i64 (wd : Int)] 123)).heap.size := by simp
  have HBA := hid hba
  have HZ0 := hid hz0
  clear hba hz0
  go_wp2_with fail
  generalize w.alloc (.cells #[.string P, .int .i64 (num : Int), .int .i64 (wd : Int)] 123) = w1 at HBA HZ0 hzs ⊢
  refine (CI.out _ ((HE.out.below HBA.out).tab)).mono ?_
  rintro e w2 ⟨rfl, k, os, hw2⟩
  have hb2 : Below w1.heap.size w1 w2 := by rw [hw2]; exact grow_below _ _ _
  have hz2 := (hb2.block _ hzs).trans HZ0.out
  have HB2 := hid (HBA.out.trans (hb2.mono HBA.out.size))
  have c0 : w2.cell? ⟨w.heap.size, 0, none⟩ = some (.string P) := by rw [Lib.cell_of_heap hz2]; rfl
  have c1 : w2.cell? ⟨w.heap.size, 1, none⟩ = some (.int .i64 (num : Int)) := by rw [Lib.cell_of_heap hz2]; rfl
  have c2 : w2.cell? ⟨w.heap.size, 2, none⟩ = some (.int .i64 (wd : Int)) := by rw [Lib.cell_of_heap hz2]; rfl
  have hzs2 : w.heap.size < w2.heap.size := Nat.lt_of_lt_of_le hzs hb2.size
  have HZ2 := hid hz2
  obtain ⟨z, hz, hz16⟩ : ∃ z : Nat, z = wd - N.size ∧ z ≤ 16 := ⟨_, rfl, by omega⟩
  have hmax : max 0 ((wd : Int) - (N.size : Int)) = (z : Int) := by omega
  have HZ := hid hz
  clear hw2 hb2 hz2 hz HBA HZ0 CI HE hzs
  obtain ⟨Z, hZ⟩ : ∃ Z : ByteArray, (⟨(Lib.repeatL (⟨#[48]⟩ : ByteArray).data.toList z).toArray⟩ : ByteArray) = Z := ⟨_, rfl⟩
  have hZl : lst Z = zerosS z := by rw [← hZ]; exact repeat_zeros z
  have hZs : Z.size = z := by rw [show Z.size = (lst Z).length from Lib.size_eq Z, hZl]; simp [zerosS]
  have cR := fun w => Tryz.strings_Repeat ⟨#[48]⟩ z w (by omega) (by rw [show (⟨#[48]⟩ : ByteArray).size = 1 from rfl]; omega)
  rw [hZ] at cR
  have add1 : ∀ w, (Op.stringOp .add P Z).run Tryz.prog w = .ok (.string (P ++ Z)) w := fun w => run_string_add_sum (w := w) _ _ (by omega)
  have add2 : ∀ w, (Op.stringOp .add (P ++ Z) N).run Tryz.prog w = .ok (.string (P ++ Z ++ N)) w := fun w => run_string_add_sum (w := w) _ _ (by rw [ByteArray.size_append]; omega)
  have hfin : Hid (lst (P ++ Z ++ N) = lst P ++ wrS M wd) := hid (by
    rw [lst_add, lst_add, hZl, HN.out, List.append_assoc]
    unfold wrS
    rw [← HNS.out, HZ.out])
  clear hZ hZl hZs c1
  go_wp2_with fail
  try rw [hmax]
  clear hmax c2 hz16 hNs2
  go_region_held3 (fun w' => w'.cell? ⟨w.heap.size, 0, none⟩ = some (.string P)) (go_keep) (first | (go_at_call 123; refine (cR _).mono ?_; rintro e w' ⟨rfl, hb'⟩; have c0' := (hb'.cell (p := ⟨w.heap.size, 0, none⟩) hzs2).trans c0; have HB' := hid hb'))
  all_goals
    go_wp2
    go_ret
    exact ⟨⟨_, rfl, hfin.out⟩, HB2.out.trans (((Below.refl w.heap.size w2).drew).trans (HB'.out.mono HB2.out.size))⟩
end Go.Proofs.YteckefolakjafaaGreatDoor.S3

set_option linter.unusedVariables false
namespace Go.Proofs.YteckefolakjafaaGreatDoor.S3
open Go Go.Proofs Go.RowKit Go.Lib

/-- How many codes a range has, 0 if it is none. -/
def rangeN (a b : Str) : Nat := if hasL a = true ∧ hasL b = true ∧ numL a ≤ numL b ∧ preS a ++ wrS (numL b) (lastS a).length = b then numL b - numL a + 1 else 0
theorem len16 {s : ByteArray} (h : s.size ≤ 16) : (lst s).length ≤ 16 := by rw [← Lib.size_eq]; exact h
theorem last_len (l : Str) (h : l.length ≤ 16) : (lastS l).length ≤ 16 ∧ (preS l).length ≤ 16 := by
  have := congrArg List.length (pre_split l)
  rw [List.length_append] at this
  omega
theorem numL_small (l : Str) (h : l.length ≤ 16) : numL l < 10000000000000000 := numN_small _ (last_dgs l) (last_len l h).1
theorem str_eq {a b : ByteArray} : (lst a = lst b ∧ (a.toList == b.toList) = true ∧ (!a.toList == b.toList) = false) ∨ (lst a ≠ lst b ∧ (a.toList == b.toList) = false ∧ (!a.toList == b.toList) = true) := by
  rw [Lib.toList_data, Lib.toList_data]
  by_cases h : lst a = lst b
  · have h' : (a.data.toList == b.data.toList) = true := by simpa using h
    exact .inl ⟨h, h', by rw [h']; rfl⟩
  · have h' : (a.data.toList == b.data.toList) = false := by simpa using h
    exact .inr ⟨h, h', by rw [h']; rfl⟩

set_option maxHeartbeats 4000000 in
set_option maxRecDepth 100000 in
theorem rangeLength_any (a b : ByteArray) (ha : a.size ≤ 16) (hb : b.size ≤ 16) (w : World) (hE : Env w) :
    Calls Tryz.prog 137 #[.string a, .string b] w fun e w' => e = .returned (.int .i64 (rangeN (lst a) (lst b) : Nat)) ∧ Below w.heap.size w w' := by
  obtain ⟨R, hR⟩ : ∃ R, rangeN (lst a) (lst b) = R := ⟨_, rfl⟩
  rw [hR]
  have na := numL_small (lst a) (len16 ha)
  have nb := numL_small (lst b) (len16 hb)
  have la := last_len (lst a) (len16 ha)
  have cA := divide_any a ha w hE
  have HR := hid hR
  have HE := hid hE
  have CA := hid cA
  clear hR hE cA
  go_enter Tryz.func137, Tryz.ntmps137
  go_wp2_with fail
  refine CA.out.mono ?_
  rintro e w1 ⟨⟨PA, rfl, hPA⟩, hb1⟩
  unfold divV
  have hPAs : PA.size ≤ 16 := by rw [Lib.size_eq, show PA.data.toList = _ from hPA]; exact la.2
  have HE1 := HE.out.below hb1
  obtain ⟨nA, hnA⟩ : ∃ n, numL (lst a) = n := ⟨_, rfl⟩
  obtain ⟨nB, hnB⟩ : ∃ n, numL (lst b) = n := ⟨_, rfl⟩
  obtain ⟨wA, hwA⟩ : ∃ n, (lastS (lst a)).length = n := ⟨_, rfl⟩
  have hwA16 : wA ≤ 16 := by rw [← hwA]; exact la.1
  rw [hnA] at na
  rw [hnB] at nb
  have hdef : Hid (R = if hasL (lst a) = true ∧ hasL (lst b) = true ∧ nA ≤ nB ∧ lst PA ++ wrS nB wA = lst b then nB - nA + 1 else 0) := hid (by rw [← HR.out]; unfold rangeN; rw [hnA, hnB, hwA, hPA])
  rw [hnA, hwA]
  have HNB := hid hnB
  have hz1 : (w1.alloc (.cells #[.string PA, .int .i64 (nA : Int), .int .i64 (wA : Int)] 123)).heap[w1.heap.size]? = some (.cells #[.string PA, .int .i64 (nA : Int), .int .i64 (wA : Int)] 123 (0, 0)) := heap_alloc_new w1 _
  have hba : Below w1.heap.size w1 (w1.alloc (.cells #[.string PA, .int .i64 (nA : Int), .int .i64 (wA : Int)] 123)) := (Below.refl _ w1).alloc (Nat.le_refl _) _
  have hsa : w1.heap.size < (w1.alloc (.cells #[.string PA, .int .i64 (nA : Int), .int .i64 (wA : Int)] 123)).heap.size := by simp
  have HZ1 := hid hz1
  have HB1 := hid (hb1.trans (hba.mono hb1.size))
  have HEa := hid (HE1.below hba)
  clear hz1 hba hb1 HE1 hnA hnB hwA hPA CA HR HE la
  go_wp2_with fail
  generalize w1.alloc (.cells #[.string PA, .int .i64 (nA : Int), .int .i64 (wA : Int)] 123) = w2 at HZ1 HB1 HEa hsa ⊢
  refine (divide_any b hb _ HEa.out).mono ?_
  rintro e w3 ⟨⟨PB, rfl, _⟩, hb3⟩
  unfold divV
  rw [HNB.out]
  obtain ⟨wB, hwB⟩ : ∃ n, (lastS (lst b)).length = n := ⟨_, rfl⟩
  rw [hwB]
  clear hwB
  have hz3 := (hb3.block _ hsa).trans HZ1.out
  have HB3 := hid (HB1.out.trans (hb3.mono HB1.out.size))
  have HE3 := HEa.out.below hb3
  have hs3 : w1.heap.size < w3.heap.size := Nat.lt_of_lt_of_le hsa hb3.size
  have hza : (w3.alloc (.cells #[.string PB, .int .i64 (nB : Int), .int .i64 (wB : Int)] 123)).heap[w1.heap.size]? = some (.cells #[.string PA, .int .i64 (nA : Int), .int .i64 (wA : Int)] 123 (0, 0)) := (Below.heap_alloc w3 _ _ hs3).trans hz3
  have hzb : (w3.alloc (.cells #[.string PB, .int .i64 (nB : Int), .int .i64 (wB : Int)] 123)).heap[w3.heap.size]? = some (.cells #[.string PB, .int .i64 (nB : Int), .int .i64 (wB : Int)] 123 (0, 0)) := heap_alloc_new w3 _
  have hba : Below w3.heap.size w3 (w3.alloc (.cells #[.string PB, .int .i64 (nB : Int), .int .i64 (wB : Int)] 123)) := (Below.refl _ w3).alloc (Nat.le_refl _) _
  have HB4 := hid (HB3.out.trans (hba.mono HB3.out.size))
  have HE4 := hid (HE3.below hba)
  clear hz3 hb3 HE3 hba HB1 HB3 HEa HNB HZ1
  obtain ⟨oa, hoa⟩ : ∃ o, hasL (lst a) = o := ⟨_, rfl⟩
  obtain ⟨ob, hob⟩ : ∃ o, hasL (lst b) = o := ⟨_, rfl⟩
  rw [hoa, hob] at hdef
  rw [hoa, hob]
  clear hoa hob
  have a1 : (w3.alloc (.cells #[.string PB, .int .i64 (nB : Int), .int .i64 (wB : Int)] 123)).cell? ⟨w1.heap.size, 1, none⟩ = some (.int .i64 (nA : Int)) := by rw [Lib.cell_of_heap hza]; rfl
  have b1 : (w3.alloc (.cells #[.string PB, .int .i64 (nB : Int), .int .i64 (wB : Int)] 123)).cell? ⟨w3.heap.size, 1, none⟩ = some (.int .i64 (nB : Int)) := by rw [Lib.cell_of_heap hzb]; rfl
  have a0 : (w3.alloc (.cells #[.string PB, .int .i64 (nB : Int), .int .i64 (wB : Int)] 123)).cell? ⟨w1.heap.size, 0, none⟩ = some (.string PA) := by rw [Lib.cell_of_heap hza]; rfl
  have a2 : (w3.alloc (.cells #[.string PB, .int .i64 (nB : Int), .int .i64 (wB : Int)] 123)).cell? ⟨w1.heap.size, 2, none⟩ = some (.int .i64 (wA : Int)) := by rw [Lib.cell_of_heap hza]; rfl
  clear hza hzb
  cases oa with
  | false =>
    have hR0 : Hid (R = 0) := hid (by rw [hdef.out, if_neg (by simp)])
    have eN : IntKind.i64.wrap ((nB : Int) - (nA : Int)) = (nB : Int) - (nA : Int) := IntWalk.i64_in _ (by omega)
    go_wp2
    go_ret
    rw [hR0.out]
    exact ⟨rfl, HB4.out⟩
  | true =>
    cases ob with
    | false =>
      have hR0 : Hid (R = 0) := hid (by rw [hdef.out, if_neg (by simp)])
      have eN : IntKind.i64.wrap ((nB : Int) - (nA : Int)) = (nB : Int) - (nA : Int) := IntWalk.i64_in _ (by omega)
      go_wp2
      go_ret
      rw [hR0.out]
      exact ⟨rfl, HB4.out⟩
    | true =>
      by_cases hle : nA ≤ nB
      · obtain ⟨d, hd⟩ : ∃ d, nB = nA + d := ⟨nB - nA, by omega⟩
        have eN : IntKind.i64.wrap ((nB : Int) - (nA : Int)) = (d : Int) := by rw [IntWalk.i64_in _ (by omega)]; omega
        have eN2 : (nB : Int) - (nA : Int) = (d : Int) := by omega
        have hdn : nA + d ≤ 1000000000000000000 := by omega
        have hd0 : ¬ (d : Int) < 0 := by omega
        have hd1 : decide ((d : Int) < 0) = false := decide_eq_false hd0
        have eD : IntKind.i64.wrap ((d : Int) + 1) = (d : Int) + 1 := IntWalk.i64_in _ (by omega)
        have HD := hid hd
        clear hle hd
        go_wp2_with fail
        refine (after_any PA nA wA d hPAs hdn hwA16 _ HE4.out).mono ?_
        rintro e w5 ⟨⟨X, rfl, hX⟩, hb5⟩
        have HX := hid hX
        have HB5 := hid (HB4.out.trans (hb5.mono HB4.out.size))
        rcases @str_eq X b with ⟨h1, h2, h3⟩ | ⟨h1, h2, h3⟩
        · have hR1 : Hid (R = d + 1) := hid (by rw [hdef.out, if_pos ⟨by trivial, by trivial, by have := HD.out; omega, by rw [HD.out, ← HX.out]; exact h1⟩]; have := HD.out; omega)
          clear h1 hX hb5 hdef
          go_wp2
          go_ret
          rw [hR1.out]
          exact ⟨by go_num, HB5.out⟩
        · have hR0 : Hid (R = 0) := hid (by rw [hdef.out, if_neg (fun h => h1 (by rw [HX.out, ← HD.out]; exact h.2.2.2))])
          clear h1 hX hb5 hdef
          go_wp2
          go_ret
          rw [hR0.out]
          exact ⟨rfl, HB5.out⟩
      · have hR0 : Hid (R = 0) := hid (by rw [hdef.out, if_neg (fun h => hle h.2.2.1)])
        have eN : IntKind.i64.wrap ((nB : Int) - (nA : Int)) = (nB : Int) - (nA : Int) := IntWalk.i64_in _ (by omega)
        have hz : (nB : Int) - (nA : Int) < 0 := by omega
        have hz' : decide ((nB : Int) - (nA : Int) < 0) = true := decide_eq_true hz
        have hz2 : (nB : Int) < (nA : Int) := by omega
        clear hle
        go_wp2
        go_ret
        rw [hR0.out]
        exact ⟨rfl, HB4.out⟩
end Go.Proofs.YteckefolakjafaaGreatDoor.S3

