/-
  Natural order: the program's compareNumbers, compareElements. Conditions: the strings fit into memory.
  Natural order: the program's Compare. Conditions: the strings fit into memory.
  What the library's variables hold, and a code taken apart: the program's divide. Conditions: the library's variables hold what its text lays; the string has at most 16 bytes.
  The code whose number is greater: the program's after. Conditions: the library's variables hold what its text lays; the numbers are small.
  How many codes a range has: the program's rangeLength. Conditions: the library's variables hold what its text lays; both strings have at most 16 bytes.
  The codes of a range: the program's expand. Conditions: the library's variables hold what its text lays; the code has at most 16 bytes; at most 64 codes.
  The first error of a list of codes: the program's check. Conditions: the strings lie in memory.
-/
import Derived.Test.YtigdcgklpapfbaaGreatDoorVN01
import Derived.Test.YtigdcgklpapfbaaGreatDoorVN03
import Derived.Test.YtigdcgklpapfbaaGreatDoorVN09
import Derived.Test.YtigdcgklpapfbaaGreatDoorVN10
import Derived.Lib.Bytealg
import Derived.Test.YtigdcgklpapfbaaGreatDoorProg
import Derived.WalkKit
import Derived.WalkSpells
import Derived.WalkLawsBesides
import Derived.Lib.Hide
import Derived.Deep.QuietTactic
import Derived.BigQuiet
import Derived.Laws.Rows
import Derived.OwnWalk
import Derived.Lib.BufferWrite
import Derived.Lib.UnsafeStr
import Derived.Laws.IdiomStrings
import Derived.Laws.BytesArg
import Derived.Laws.BytesString
import Derived.Shelf.Strings.Builder1
import Derived.Shelf.Strings.Builder2
import Derived.Shelf.Strings.OnBuilder
import Derived.Shelf.Strings.Trim
import Derived.Shelf.Small.Bits
import Derived.Shelf.Small.Strs
import Derived.Shelf.Small.Wraps
import Derived.Shelf.Strings.BuilderF
import Derived.Shelf.Strings.BuilderK
import Derived.Shelf.Strings.Builder2Cap
import Derived.Shelf.Strconv.Atoi
import Derived.Shelf.Strconv.Itoa0
import Derived.Shelf.Strconv.Itoa1
import Derived.Shelf.LaysM
import Derived.Shelf.Strconv.Itoa2
import Derived.Shelf.Strconv.Itoa3
import Derived.Shelf.Strconv.AtoiErrFast
import Derived.Shelf.Strconv.ParseIntEmpty
import Derived.Shelf.Strconv.AtoiFail
import Derived.Shelf.Strconv.Clone
import Derived.Shelf.Strconv.SyntaxError
import Derived.Shelf.LaysC
import Derived.Shelf.Strconv.ToError
import Derived.Shelf.Strconv.AtoiErr
import Derived.Shelf.Strings.Search1
import Derived.Shelf.Strings.Search2
import Derived.Shelf.Strings.Search3
import Derived.Shelf.Strings.Cut
import Derived.Shelf.Strings.Shaped
import Derived.Shelf.Strings.Prefix
import Derived.Shelf.Strings.Runes
import Derived.Shelf.Strings.AsciiSet
import Derived.Shelf.Bits.Mul64
import Derived.Shelf.Strings.Repeat
import Derived.Shelf.Unicode.DecodeSlow
import Derived.Shelf.Strings.BuilderCap
import Derived.Shelf.Slices.Turned
import Derived.Ground.SlgfProg
import Derived.Shelf.SlicesE.IndexFunc
import Derived.Lib.ItoaNum
import Derived.Lib.Atoi
import Derived.Lib.SlTrimSet
import Derived.Shelf.Strings.SlTrimAscii
import Derived.Lib.AtoiErrMem
import Derived.Handy
import Derived.Laws.ResultCell
import Derived.RegionTactic
import Derived.Lib.Repeat
import Derived.Deep.RegionHeld3
import Derived.Laws.OwnMore
import Derived.Lib.SlicesS
set_option linter.unusedVariables false
namespace Go.Proofs.YtigdcgklpapfbaaGreatDoor.S3
open Go Go.Proofs Go.RowKit Go.Lib

def orI (a b : Int) : Int := if a = 0 then b else a
set_option maxHeartbeats 2000000 in
theorem or_any (b c : Nat) (x y : Int) (w : World) (h0 : w.cell? ⟨b, 0, none⟩ = some (.int .i64 x)) (h1 : w.cell? ⟨b, 1, none⟩ = some (.int .i64 y)) :
    Calls Tryz.prog 153 #[.slice (some ⟨b, 0, none⟩) 2 c] w fun e w' => e = .returned (.int .i64 (orI x y)) ∧ w = w' := by
  obtain ⟨R, hR⟩ : ∃ R, orI x y = R := ⟨_, rfl⟩
  rw [hR]
  by_cases hx : x = 0
  · have hr : R = y := by rw [← hR]; exact if_pos hx
    have ex : ((x : Int) != 0) = false := by simp [hx]
    have HR := hid hr
    clear hR hr
    by_cases hy : y = 0
    · have ey : ((y : Int) != 0) = false := by simp [hy]
      have HY := hid hy
      subst hx
      clear ex hy
      go_enter Tryz.func153, Tryz.ntmps153
      go_wp2
      go_loop [5, 8] (fun _ i => ∃ k : Nat, (k = 0 ∨ k = 1 ∨ k = 2) ∧ i = .int .i64 (k : Int)) (fun _ i => 2 - (RowKit.intOf i).toNat)
      case atStart => exact ⟨0, .inl rfl, rfl⟩
      case round =>
        obtain ⟨k, hk, rfl⟩ := hrel
        rcases hk with rfl | rfl | rfl
        · go_wp2
          go_round
          case rel => exact ⟨1, .inr (.inl rfl), rfl⟩
          case measure => simp [RowKit.intOf]
        · go_wp2
          go_round
          case rel => exact ⟨2, .inr (.inr rfl), rfl⟩
          case measure => simp [RowKit.intOf]
        · go_wp2
          go_ret
          rw [HR.out, HY.out]
          exact ⟨rfl, rfl⟩
    · have ey : ((y : Int) != 0) = true := by simpa using hy
      subst hx
      clear ex
      go_enter Tryz.func153, Tryz.ntmps153
      go_wp2
      go_loop [5, 8] (fun _ i => ∃ k : Nat, (k = 0 ∨ k = 1) ∧ i = .int .i64 (k : Int)) (fun _ i => 2 - (RowKit.intOf i).toNat)
      case atStart => exact ⟨0, .inl rfl, rfl⟩
      case round =>
        obtain ⟨k, hk, rfl⟩ := hrel
        rcases hk with rfl | rfl
        · go_wp2
          go_round
          case rel => exact ⟨1, .inr rfl, rfl⟩
          case measure => simp [RowKit.intOf]
        · go_wp2
          go_ret
          rw [HR.out]
          exact ⟨rfl, rfl⟩
  · have hr : R = x := by rw [← hR]; exact if_neg hx
    have ex : ((x : Int) != 0) = true := by simpa using hx
    have HR := hid hr
    clear hR hr hx
    go_enter Tryz.func153, Tryz.ntmps153
    go_wp2
    go_loop [5, 8] (fun _ i => i = .int .i64 0) (fun _ i => 2 - (RowKit.intOf i).toNat)
    case atStart => rfl
    case round =>
      obtain rfl := hrel
      go_wp2
      go_ret
      rw [HR.out]
      exact ⟨rfl, rfl⟩

end Go.Proofs.YtigdcgklpapfbaaGreatDoor.S3

set_option linter.unusedVariables false
namespace Go.Proofs.YtigdcgklpapfbaaGreatDoor.S3
open Go Go.Proofs Go.RowKit Go.Lib

theorem str_no {s : ByteArray} (h : 0 < s.size) : (s.toList == []) = false ∧ (!s.toList.isEmpty) = true ∧ (s.toList != []) = true ∧ ¬ s.toList = [] := by
  have hne : s.toList ≠ [] := fun e => by
    rw [Lib.toList_data] at e
    rw [Lib.size_eq, e] at h
    simp at h
  refine ⟨by simpa using hne, by simpa using hne, by simpa using hne, hne⟩
theorem str_yes {s : ByteArray} (h : ¬ 0 < s.size) : (s.toList == []) = true ∧ (!s.toList.isEmpty) = false ∧ (s.toList != []) = false ∧ s.toList = [] := by
  have e : s.toList = [] := by
    rw [Lib.toList_data]
    exact List.eq_nil_of_length_eq_zero (by rw [← Lib.size_eq]; omega)
  refine ⟨by simpa using e, by simp [e], by simp [e], e⟩
theorem lst_ne {s : ByteArray} (h : 0 < s.size) : lst s ≠ [] := fun e => by
  have h' : 0 < (lst s).length := by rw [← Lib.size_eq]; exact h
  rw [e] at h'
  simp at h'
theorem lst_nil {s : ByteArray} (h : ¬ 0 < s.size) : lst s = [] := List.eq_nil_of_length_eq_zero (by rw [← Lib.size_eq]; omega)
end Go.Proofs.YtigdcgklpapfbaaGreatDoor.S3

set_option linter.unusedVariables false
namespace Go.Proofs.YtigdcgklpapfbaaGreatDoor.S3
open Go Go.Proofs Go.RowKit Go.Lib

/-- The library's variables. -/
structure Env (w : World) : Prop where
  m : ∃ m, w.cell? ⟨7, 0, none⟩ = some (.int .i64 m)
  ev : ∃ ev, w.cell? ⟨8, 0, none⟩ = some ev ∧ (ev = .nilIface ∨ ∃ te pe, ev = .iface te pe)
  tab : Lib.TabIs Tryz.prog w "internal/strconv.uint64pow10" .u64 Lib.pow10Tab
  size : 8 < w.heap.size
theorem gTab : Tryz.prog.globalNamed "internal/strconv.uint64pow10" = some 6 := by kernel_rfl
theorem var_below {B g : Nat} {W W' : World} {n : String} {cs : Array Value} (h : Below B W W') (hg : Tryz.prog.globalNamed n = some g) (hgB : g < B) (hv : W.var? Tryz.prog n = some cs) : W'.var? Tryz.prog n = some cs := by
  unfold World.var? at hv ⊢
  simp only [hg, Option.bind_some] at hv ⊢
  rw [h.block g hgB]
  exact hv
theorem Env.below {w w' : World} (h : Env w) (hb : Below w.heap.size w w') : Env w' := by
  obtain ⟨m, hm⟩ := h.m
  obtain ⟨ev, he, hk⟩ := h.ev
  have hs := h.size
  exact ⟨⟨m, (hb.cell (p := ⟨7, 0, none⟩) (by show 7 < w.heap.size; omega)).trans hm⟩, ⟨ev, (hb.cell (p := ⟨8, 0, none⟩) (by show 8 < w.heap.size; omega)).trans he, hk⟩,
    var_below hb gTab (by omega) h.tab, Nat.le_trans hs hb.size⟩

theorem trimR_any (s : ByteArray) (hs : s.size ≤ 9223372036854775807) (w : World) :
    Calls Tryz.prog 227 #[.string s, .string ⟨#[48, 49, 50, 51, 52, 53, 54, 55, 56, 57]⟩] w fun e w' => e = .returned (.string ⟨(preS (lst s)).toArray⟩) ∧ Below w.heap.size w w' := by
  have h := Any.strings_TrimRight_laid Tryz.lays162 (by kernel_rfl) s ⟨#[48, 49, 50, 51, 52, 53, 54, 55, 56, 57]⟩ w hs (by decide) (fun j b hb => by
    have := List.mem_of_getElem? hb
    simp at this
    rcases this with rfl | rfl | rfl | rfl | rfl | rfl | rfl | rfl | rfl | rfl <;> decide)
  rw [show (⟨#[48, 49, 50, 51, 52, 53, 54, 55, 56, 57]⟩ : ByteArray).data.toList = [48, 49, 50, 51, 52, 53, 54, 55, 56, 57] from rfl, trim_pre] at h
  exact h

theorem results_ct {fn : Func} {p u : Tmp} {A : TypeId} (h : fn.results = #[.cell p A, .tmp u]) (tmps : Array Value) (P : Program) (w : World) (a : Addr) (va vc : Value)
    (ha : tmps.getD p undef = .pointer (some a)) (hc : tmps.getD u undef = vc)
    (hla : (loadVar A a).run P w = .ok va w) : (results fn tmps).run P w = .ok (.tuple #[va, vc]) w := by
  rw [Array.getD_eq_getD_getElem?] at ha hc
  simp only [results, h]
  simp [Result.andThen, ha, hc, hla, asAddr]
theorem loadNumb {w : World} {k : Nat} {x y z : Value} (h0 : w.cell? ⟨k, 0, none⟩ = some x) (h1 : w.cell? ⟨k, 1, none⟩ = some y) (h2 : w.cell? ⟨k, 2, none⟩ = some z) : (loadVar 213 ⟨k, 0, none⟩).run Tryz.prog w = .ok (.agg #[x, y, z]) w := by
  simp [loadVar, go_sem, h0, h1, h2]
theorem lst_from (s : ByteArray) (P : ByteArray) (hP : lst P = preS (lst s)) : lst (s.extract P.size s.size) = lastS (lst s) := by
  rw [lst_extract, List.take_of_length_le (by rw [← Lib.size_eq]; exact Nat.le_refl _)]
  unfold lastS
  rw [← hP, show P.size = (lst P).length from Lib.size_eq P]
/-- The last number, 0 if there is none. -/
def numL (s : Str) : Nat := numN (lastS s)
def divV (P : ByteArray) (s : Str) : Value := .agg #[.string P, .int .i64 (numL s : Int), .int .i64 ((lastS s).length : Int)]
def hasL (s : Str) : Bool := !(lastS s).isEmpty
/-- What divide hands back. -/
def DivOut (s : Str) (w : World) (e : Ending) (w' : World) : Prop := (∃ P : ByteArray, e = .returned (.tuple #[divV P s, .bool (hasL s)]) ∧ lst P = preS s) ∧ Below w.heap.size w w'

theorem three_set {w : World} {k : Nat} {a b c : Value} {T : TypeId} (h : w.heap[k]? = some (.cells #[a, b, c] T (0, 0))) (x y z : Value) :
    (((w.setCell ⟨k, 0, none⟩ x).setCell ⟨k, 1, none⟩ y).setCell ⟨k, 2, none⟩ z).heap[k]? = some (.cells #[x, y, z] T (0, 0)) := by
  have h1 := heap_setCell_same w k 0 _ _ x h
  have h2 := heap_setCell_same _ k 1 _ _ y h1
  have h3 := heap_setCell_same _ k 2 _ _ z h2
  rw [h3]
  rfl
theorem div_end {s : Str} {w W : World} {P : ByteArray} {a : Act} {ok : Bool} {n wd : Int} (ha : a.tmps.getD 2 undef = .pointer (some ⟨w.heap.size, 0, none⟩)) (hc : a.tmps.getD 3 undef = .bool ok) (hd : a.defers = [])
    (hz : W.heap[w.heap.size]? = some (.cells #[.string P, .int .i64 n, .int .i64 wd] 213 (0, 0))) (hv : divV P s = .agg #[.string P, .int .i64 n, .int .i64 wd]) (hb : hasL s = ok) (hP : lst P = preS s) (hB : Below w.heap.size w W) :
    bodyPost Tryz.prog Tryz.f179 (DivOut s w) Exit.ret a W := by
  refine bodyPost_ret (v := .tuple #[divV P s, .bool (hasL s)]) (results_ct rfl _ _ _ ⟨w.heap.size, 0, none⟩ _ _ ha (by rw [hb]; exact hc) ?_) hd ⟨⟨P, rfl, hP⟩, hB⟩
  rw [hv]
  exact loadNumb (by rw [Lib.cell_of_heap hz]; rfl) (by rw [Lib.cell_of_heap hz]; rfl) (by rw [Lib.cell_of_heap hz]; rfl)

set_option maxHeartbeats 4000000 in
set_option maxRecDepth 100000 in
theorem divide_any (s : ByteArray) (hs : s.size ≤ 16) (w : World) (hE : Env w) : Calls Tryz.prog 179 #[.string s] w (DivOut (lst s) w) := by
  have hsl : (lst s).length ≤ 16 := by rw [← Lib.size_eq]; exact hs
  obtain ⟨P, hP0⟩ : ∃ P : ByteArray, (⟨(preS (lst s)).toArray⟩ : ByteArray) = P := ⟨_, rfl⟩
  have hP : lst P = preS (lst s) := by rw [← hP0]
  have cT := trimR_any s (by omega)
  rw [hP0] at cT
  have hsp := pre_split (lst s)
  have hpl : (preS (lst s)).length ≤ (lst s).length := by
    have := congrArg List.length hsp
    rw [List.length_append] at this
    omega
  have hPs : P.size ≤ s.size := by rw [show P.size = (lst P).length from Lib.size_eq P, hP, show s.size = (lst s).length from Lib.size_eq s]; exact hpl
  have hX := lst_from s P hP
  obtain ⟨X, hXd⟩ : ∃ X, s.extract P.size s.size = X := ⟨_, rfl⟩
  rw [hXd] at hX
  have hXs : X.size ≤ 16 := by rw [← hXd, ByteArray.size_extract]; omega
  have hXl : X.size = (lastS (lst s)).length := by rw [← hX]; exact Lib.size_eq X
  have hPz : (P.size : Int) ≤ (s.size : Int) := by omega
  have hdg := last_dgs (lst s)
  have HP := hid hP
  have HX := hid hX
  have HXL := hid hXl
  have HE := hid hE
  have hsub : ∀ w : World, Below w.heap.size w (w.alloc (.cells #[.string ⟨#[]⟩, .int .i64 0, .int .i64 0] 213)) := fun w => (Below.refl _ w).alloc (Nat.le_refl _) _
  have HS := hid hsub
  clear hP0 hP hsp hpl hX hXl hE hsub hsl
  by_cases h0 : lastS (lst s) = []
  · have hn : Hid (divV P (lst s) = .agg #[.string P, .int .i64 0, .int .i64 (X.size : Int)]) := hid (by unfold divV numL; rw [HXL.out, h0]; rfl)
    have hb : Hid (hasL (lst s) = false) := hid (by unfold hasL; rw [h0]; rfl)
    have ha : Lib.atoi (lst X) = none := by rw [HX.out, h0]; rfl
    obtain ⟨ev, hev, hev2⟩ := HE.out.ev
    have HEV := hid hev
    have hsz := HE.out.size
    clear h0 hdg hev
    go_enter Tryz.func179, Tryz.ntmps179
    go_wp2_with fail
    have HB0 := HS.out w
    have hz0 : (w.alloc (.cells #[.string ⟨#[]⟩, .int .i64 0, .int .i64 0] 213)).heap[w.heap.size]? = some (.cells #[.string ⟨#[]⟩, .int .i64 0, .int .i64 0] 213 (0, 0)) := heap_alloc_new w _
    have hzs : w.heap.size < (w.alloc (.cells #[.string ⟨#[]⟩, .int .i64 0, .int .i64 0] 213)).heap.size := by simp
    have HB0' := hid HB0
    have HZ0 := hid hz0
    clear HB0 hz0
    generalize w.alloc (.cells #[.string ⟨#[]⟩, .int .i64 0, .int .i64 0] 213) = w1 at HB0' HZ0 hzs ⊢
    refine (cT _).mono ?_
    rintro e w2 ⟨rfl, hb2⟩
    have HZ2 := hid ((hb2.block _ hzs).trans HZ0.out)
    have HB2 := hid (HB0'.out.trans (hb2.mono HB0'.out.size))
    have hzs2 : w.heap.size < w2.heap.size := Nat.lt_of_lt_of_le hzs hb2.size
    clear hb2 HZ0 HB0'
    go_wp2_with fail
    have cA := Tryz.strconv_Atoi_err X (by omega) ha ev w2 ((HB2.out.cell (p := ⟨8, 0, none⟩) (by show 8 < w.heap.size; omega)).trans HEV.out) hev2
    have CA := hid cA
    clear cA ha cT
    refine CA.out.mono ?_
    rintro e w3 ⟨N, rfl, _, _, hb3⟩
    have hz3 := (hb3.block _ hzs2).trans HZ2.out
    have HB3 := hid (HB2.out.trans (hb3.mono HB2.out.size))
    have z0 : w3.cell? ⟨w.heap.size, 0, none⟩ = some (.string ⟨#[]⟩) := by rw [Lib.cell_of_heap hz3]; rfl
    have z1 : w3.cell? ⟨w.heap.size, 1, none⟩ = some (.int .i64 0) := by rw [Lib.cell_of_heap hz3]; rfl
    have z2 : w3.cell? ⟨w.heap.size, 2, none⟩ = some (.int .i64 0) := by rw [Lib.cell_of_heap hz3]; rfl
    have f : ∀ j, w3.frozen? ⟨w.heap.size, j, none⟩ = false := fun j => by simp [World.frozen?, hz3]
    have f0 := f 0
    have f1 := f 1
    have f2 := f 2
    have HZ3 := hid hz3
    clear f hz3 hb3 HZ2 CA
    go_wp2
    go_region
    all_goals
      go_wp2
      exact div_end rfl rfl rfl (three_set HZ3.out _ _ _) hn.out hb.out HP.out ((((HB3.out.setCell (p := ⟨w.heap.size, 0, none⟩) (Nat.le_refl _) _).setCell (p := ⟨w.heap.size, 1, none⟩) (Nat.le_refl _) _).setCell (p := ⟨w.heap.size, 2, none⟩) (Nat.le_refl _) _)).drew
  · obtain ⟨n, hnn⟩ : ∃ n, numL (lst s) = n := ⟨_, rfl⟩
    have hn : Hid (divV P (lst s) = .agg #[.string P, .int .i64 (n : Int), .int .i64 (X.size : Int)]) := hid (by unfold divV; rw [HXL.out, hnn])
    have hb : Hid (hasL (lst s) = true) := hid (by unfold hasL; simpa using h0)
    have ha : Lib.atoi (lst X) = some (n : Int) := by rw [HX.out, ← hnn]; exact atoi_num _ h0 hdg
    clear h0 hdg hnn
    go_enter Tryz.func179, Tryz.ntmps179
    go_wp2_with fail
    have HB0 := HS.out w
    have hz0 : (w.alloc (.cells #[.string ⟨#[]⟩, .int .i64 0, .int .i64 0] 213)).heap[w.heap.size]? = some (.cells #[.string ⟨#[]⟩, .int .i64 0, .int .i64 0] 213 (0, 0)) := heap_alloc_new w _
    have hzs : w.heap.size < (w.alloc (.cells #[.string ⟨#[]⟩, .int .i64 0, .int .i64 0] 213)).heap.size := by simp
    have HB0' := hid HB0
    have HZ0 := hid hz0
    clear HB0 hz0
    generalize w.alloc (.cells #[.string ⟨#[]⟩, .int .i64 0, .int .i64 0] 213) = w1 at HB0' HZ0 hzs ⊢
    refine (cT _).mono ?_
    rintro e w2 ⟨rfl, hb2⟩
    have HZ2 := hid ((hb2.block _ hzs).trans HZ0.out)
    have HB2 := hid (HB0'.out.trans (hb2.mono HB0'.out.size))
    have hzs2 : w.heap.size < w2.heap.size := Nat.lt_of_lt_of_le hzs hb2.size
    clear hb2 HZ0 HB0'
    go_wp2_with fail
    have cA := Tryz.strconv_Atoi X n (by omega) ha w2
    have CA := hid cA
    clear cA ha cT
    refine CA.out.mono ?_
    rintro e w3 ⟨rfl, t, hw3⟩
    have hb3 : Below w2.heap.size w2 w3 := by rw [hw3]; exact Lib.bytesWorld_below _ _ _
    clear hw3
    have hz3 := (hb3.block _ hzs2).trans HZ2.out
    have HB3 := hid (HB2.out.trans (hb3.mono HB2.out.size))
    have z0 : w3.cell? ⟨w.heap.size, 0, none⟩ = some (.string ⟨#[]⟩) := by rw [Lib.cell_of_heap hz3]; rfl
    have z1 : w3.cell? ⟨w.heap.size, 1, none⟩ = some (.int .i64 0) := by rw [Lib.cell_of_heap hz3]; rfl
    have z2 : w3.cell? ⟨w.heap.size, 2, none⟩ = some (.int .i64 0) := by rw [Lib.cell_of_heap hz3]; rfl
    have f : ∀ j, w3.frozen? ⟨w.heap.size, j, none⟩ = false := fun j => by simp [World.frozen?, hz3]
    have f0 := f 0
    have f1 := f 1
    have f2 := f 2
    have HZ3 := hid hz3
    clear f hz3 hb3 HZ2 CA
    go_wp2
    go_region
    all_goals
      go_wp2
      exact div_end rfl rfl rfl (three_set HZ3.out _ _ _) hn.out hb.out HP.out ((((HB3.out.setCell (p := ⟨w.heap.size, 0, none⟩) (Nat.le_refl _) _).setCell (p := ⟨w.heap.size, 1, none⟩) (Nat.le_refl _) _).setCell (p := ⟨w.heap.size, 2, none⟩) (Nat.le_refl _) _)).drew
end Go.Proofs.YtigdcgklpapfbaaGreatDoor.S3

set_option linter.unusedVariables false
namespace Go.Proofs.YtigdcgklpapfbaaGreatDoor.S3
open Go Go.Proofs Go.RowKit Go.Lib Go.Sort

theorem grow_below (w : World) (k : Nat) (os : Array Obj) : Below w.heap.size w (grow (w.drewN k) os) := by
  have h := below_drewN (Below.refl w.heap.size w) k
  refine ⟨h.os, h.tape, h.output, ?_, fun b hb => ?_⟩
  · show w.heap.size ≤ ((w.drewN k).heap ++ os).size
    have := h.size
    rw [Array.size_append]
    omega
  · show ((w.drewN k).heap ++ os)[b]? = _
    have := h.size
    rw [Array.getElem?_append_left (by omega)]
    exact h.block b hb
theorem repeat_zeros : ∀ k : Nat, Lib.repeatL [48] k = zerosS k := by
  intro k
  induction k with
  | zero => rfl
  | succ k ih => simp [Lib.repeatL, zerosS, List.replicate_succ] at ih ⊢; try exact ih
theorem lst_add (a b : ByteArray) : lst (a ++ b) = lst a ++ lst b := by simp [lst]

/-- What after hands back. -/
def StrOut (l : Str) (w : World) (e : Ending) (w' : World) : Prop := (∃ R : ByteArray, e = .returned (.string R) ∧ lst R = l) ∧ Below w.heap.size w w'
set_option maxHeartbeats 4000000 in
set_option maxRecDepth 100000 in
theorem after_any (P : ByteArray) (num wd n : Nat) (hP : P.size ≤ 16) (hn : num + n ≤ 1000000000000000000) (hw : wd ≤ 16) (w : World) (hE : Env w) :
    Calls Tryz.prog 180 #[.agg #[.string P, .int .i64 (num : Int), .int .i64 (wd : Int)], .int .i64 (n : Int)] w (StrOut (lst P ++ wrS (num + n) wd) w) := by
  have e1 : IntKind.i64.wrap ((num : Int) + (n : Int)) = ((num + n : Nat) : Int) := by rw [IntWalk.i64_in _ (by omega)]; omega
  have hlen := dec_len (num + n) 19 (by have : (10 : Nat) ^ 19 = 10000000000000000000 := by decide
                                        omega) (by omega)
  have cI := Tryz.strconv_Itoa ((num + n : Nat) : Int) (by omega) (by omega)
  obtain ⟨N, hN⟩ : ∃ N : ByteArray, (⟨(Lib.itoa ((num + n : Nat) : Int)).toArray⟩ : ByteArray) = N := ⟨_, rfl⟩
  have hNl : lst N = decDigits (num + n) := by
    rw [← hN]
    show Lib.itoa ((num + n : Nat) : Int) = _
    unfold Lib.itoa
    rw [if_neg (by omega), Int.toNat_natCast]
  rw [hN] at cI
  have hNs : N.size = (decDigits (num + n)).length := by rw [← hNl]; exact Lib.size_eq N
  have HN := hid hNl
  have HNS := hid hNs
  have hNs2 : N.size ≤ 19 := by omega
  have CI := hid cI
  have HE := hid hE
  obtain ⟨M, hM⟩ : ∃ M, num + n = M := ⟨_, rfl⟩
  rw [hM] at e1 CI HN HNS ⊢
  clear hN hNl hNs cI hE hlen
  go_enter Tryz.func180, Tryz.ntmps180
  have hba : Below w.heap.size w (w.alloc (.cells #[.string P, .int .i64 (num : Int), .int .i64 (wd : Int)] 213)) := (Below.refl _ w).alloc (Nat.le_refl _) _
  have hz0 : (w.alloc (.cells #[.string P, .int .i64 (num : Int), .int .i64 (wd : Int)] 213)).heap[w.heap.size]? = some (.cells #[.string P, .int .i64 (num : Int), .int .i64 (wd : Int)] 213 (0, 0)) := heap_alloc_new w _
  have hzs : w.heap.size < (w.alloc (.cells #[.string P, .int .i64 (num : Int), .int .i64 (wd : Int)] 213)).heap.size := by simp
  have HBA := hid hba
  have HZ0 := hid hz0
  clear hba hz0
  go_wp2_with fail
  generalize w.alloc (.cells #[.string P, .int .i64 (num : Int), .int .i64 (wd : Int)] 213) = w1 at HBA HZ0 hzs ⊢
  refine (CI.out _ ((HE.out.below HBA.out).tab)).mono ?_
  rintro e w2 ⟨rfl, k, os, hw2⟩
  have hb2 : Below w1.heap.size w1 w2 := by rw [hw2]; exact grow_below _ _ _
  have hz2 := (hb2.block _ hzs).trans HZ0.out
  have HB2 := hid (HBA.out.trans (hb2.mono HBA.out.size))
  have c0 : w2.cell? ⟨w.heap.size, 0, none⟩ = some (.string P) := by rw [Lib.cell_of_heap hz2]; rfl
  have c1 : w2.cell? ⟨w.heap.size, 1, none⟩ = some (.int .i64 (num : Int)) := by rw [Lib.cell_of_heap hz2]; rfl
  have c2 : w2.cell? ⟨w.heap.size, 2, none⟩ = some (.int .i64 (wd : Int)) := by rw [Lib.cell_of_heap hz2]; rfl
  have hzs2 : w.heap.size < w2.heap.size := Nat.lt_of_lt_of_le hzs hb2.size
  have HZ2 := hid hz2
  obtain ⟨z, hz, hz16⟩ : ∃ z : Nat, z = wd - N.size ∧ z ≤ 16 := ⟨_, rfl, by omega⟩
  have hmax : max 0 ((wd : Int) - (N.size : Int)) = (z : Int) := by omega
  have HZ := hid hz
  clear hw2 hb2 hz2 hz HBA HZ0 CI HE hzs
  obtain ⟨Z, hZ⟩ : ∃ Z : ByteArray, (⟨(Lib.repeatL (⟨#[48]⟩ : ByteArray).data.toList z).toArray⟩ : ByteArray) = Z := ⟨_, rfl⟩
  have hZl : lst Z = zerosS z := by rw [← hZ]; exact repeat_zeros z
  have hZs : Z.size = z := by rw [show Z.size = (lst Z).length from Lib.size_eq Z, hZl]; simp [zerosS]
  have cR := fun w => Tryz.strings_Repeat ⟨#[48]⟩ z w (by omega) (by rw [show (⟨#[48]⟩ : ByteArray).size = 1 from rfl]; omega)
  rw [hZ] at cR
  have add1 : ∀ w, (Op.stringOp .add P Z).run Tryz.prog w = .ok (.string (P ++ Z)) w := fun w => run_string_add_sum (w := w) _ _ (by omega)
  have add2 : ∀ w, (Op.stringOp .add (P ++ Z) N).run Tryz.prog w = .ok (.string (P ++ Z ++ N)) w := fun w => run_string_add_sum (w := w) _ _ (by rw [ByteArray.size_append]; omega)
  have hfin : Hid (lst (P ++ Z ++ N) = lst P ++ wrS M wd) := hid (by
    rw [lst_add, lst_add, hZl, HN.out, List.append_assoc]
    unfold wrS
    rw [← HNS.out, HZ.out])
  clear hZ hZl hZs c1
  go_wp2_with fail
  try rw [hmax]
  clear hmax c2 hz16 hNs2
  go_region_held3 (fun w' => w'.cell? ⟨w.heap.size, 0, none⟩ = some (.string P)) (go_keep) (first | (go_at_call 228; refine (cR _).mono ?_; rintro e w' ⟨rfl, hb'⟩; have c0' := (hb'.cell (p := ⟨w.heap.size, 0, none⟩) hzs2).trans c0; have HB' := hid hb'))
  all_goals
    go_wp2
    go_ret
    exact ⟨⟨_, rfl, hfin.out⟩, HB2.out.trans (((Below.refl w.heap.size w2).drew).trans (HB'.out.mono HB2.out.size))⟩
end Go.Proofs.YtigdcgklpapfbaaGreatDoor.S3

set_option linter.unusedVariables false
namespace Go.Proofs.YtigdcgklpapfbaaGreatDoor.S3
open Go Go.Proofs Go.RowKit Go.Lib

/-- How many codes a range has, 0 if it is none. -/
def rangeN (a b : Str) : Nat := if hasL a = true ∧ hasL b = true ∧ numL a ≤ numL b ∧ preS a ++ wrS (numL b) (lastS a).length = b then numL b - numL a + 1 else 0
theorem len16 {s : ByteArray} (h : s.size ≤ 16) : (lst s).length ≤ 16 := by rw [← Lib.size_eq]; exact h
theorem last_len (l : Str) (h : l.length ≤ 16) : (lastS l).length ≤ 16 ∧ (preS l).length ≤ 16 := by
  have := congrArg List.length (pre_split l)
  rw [List.length_append] at this
  omega
theorem numL_small (l : Str) (h : l.length ≤ 16) : numL l < 10000000000000000 := numN_small _ (last_dgs l) (last_len l h).1
theorem str_eq {a b : ByteArray} : (lst a = lst b ∧ (a.toList == b.toList) = true ∧ (!a.toList == b.toList) = false) ∨ (lst a ≠ lst b ∧ (a.toList == b.toList) = false ∧ (!a.toList == b.toList) = true) := by
  rw [Lib.toList_data, Lib.toList_data]
  by_cases h : lst a = lst b
  · have h' : (a.data.toList == b.data.toList) = true := by simpa using h
    exact .inl ⟨h, h', by rw [h']; rfl⟩
  · have h' : (a.data.toList == b.data.toList) = false := by simpa using h
    exact .inr ⟨h, h', by rw [h']; rfl⟩

set_option maxHeartbeats 4000000 in
set_option maxRecDepth 100000 in
theorem rangeLength_any (a b : ByteArray) (ha : a.size ≤ 16) (hb : b.size ≤ 16) (w : World) (hE : Env w) :
    Calls Tryz.prog 192 #[.string a, .string b] w fun e w' => e = .returned (.int .i64 (rangeN (lst a) (lst b) : Nat)) ∧ Below w.heap.size w w' := by
  obtain ⟨R, hR⟩ : ∃ R, rangeN (lst a) (lst b) = R := ⟨_, rfl⟩
  rw [hR]
  have na := numL_small (lst a) (len16 ha)
  have nb := numL_small (lst b) (len16 hb)
  have la := last_len (lst a) (len16 ha)
  have cA := divide_any a ha w hE
  have HR := hid hR
  have HE := hid hE
  have CA := hid cA
  clear hR hE cA
  go_enter Tryz.func192, Tryz.ntmps192
  go_wp2_with fail
  refine CA.out.mono ?_
  rintro e w1 ⟨⟨PA, rfl, hPA⟩, hb1⟩
  unfold divV
  have hPAs : PA.size ≤ 16 := by rw [Lib.size_eq, show PA.data.toList = _ from hPA]; exact la.2
  have HE1 := HE.out.below hb1
  obtain ⟨nA, hnA⟩ : ∃ n, numL (lst a) = n := ⟨_, rfl⟩
  obtain ⟨nB, hnB⟩ : ∃ n, numL (lst b) = n := ⟨_, rfl⟩
  obtain ⟨wA, hwA⟩ : ∃ n, (lastS (lst a)).length = n := ⟨_, rfl⟩
  have hwA16 : wA ≤ 16 := by rw [← hwA]; exact la.1
  rw [hnA] at na
  rw [hnB] at nb
  have hdef : Hid (R = if hasL (lst a) = true ∧ hasL (lst b) = true ∧ nA ≤ nB ∧ lst PA ++ wrS nB wA = lst b then nB - nA + 1 else 0) := hid (by rw [← HR.out]; unfold rangeN; rw [hnA, hnB, hwA, hPA])
  rw [hnA, hwA]
  have HNB := hid hnB
  have hz1 : (w1.alloc (.cells #[.string PA, .int .i64 (nA : Int), .int .i64 (wA : Int)] 213)).heap[w1.heap.size]? = some (.cells #[.string PA, .int .i64 (nA : Int), .int .i64 (wA : Int)] 213 (0, 0)) := heap_alloc_new w1 _
  have hba : Below w1.heap.size w1 (w1.alloc (.cells #[.string PA, .int .i64 (nA : Int), .int .i64 (wA : Int)] 213)) := (Below.refl _ w1).alloc (Nat.le_refl _) _
  have hsa : w1.heap.size < (w1.alloc (.cells #[.string PA, .int .i64 (nA : Int), .int .i64 (wA : Int)] 213)).heap.size := by simp
  have HZ1 := hid hz1
  have HB1 := hid (hb1.trans (hba.mono hb1.size))
  have HEa := hid (HE1.below hba)
  clear hz1 hba hb1 HE1 hnA hnB hwA hPA CA HR HE la
  go_wp2_with fail
  generalize w1.alloc (.cells #[.string PA, .int .i64 (nA : Int), .int .i64 (wA : Int)] 213) = w2 at HZ1 HB1 HEa hsa ⊢
  refine (divide_any b hb _ HEa.out).mono ?_
  rintro e w3 ⟨⟨PB, rfl, _⟩, hb3⟩
  unfold divV
  rw [HNB.out]
  obtain ⟨wB, hwB⟩ : ∃ n, (lastS (lst b)).length = n := ⟨_, rfl⟩
  rw [hwB]
  clear hwB
  have hz3 := (hb3.block _ hsa).trans HZ1.out
  have HB3 := hid (HB1.out.trans (hb3.mono HB1.out.size))
  have HE3 := HEa.out.below hb3
  have hs3 : w1.heap.size < w3.heap.size := Nat.lt_of_lt_of_le hsa hb3.size
  have hza : (w3.alloc (.cells #[.string PB, .int .i64 (nB : Int), .int .i64 (wB : Int)] 213)).heap[w1.heap.size]? = some (.cells #[.string PA, .int .i64 (nA : Int), .int .i64 (wA : Int)] 213 (0, 0)) := (Below.heap_alloc w3 _ _ hs3).trans hz3
  have hzb : (w3.alloc (.cells #[.string PB, .int .i64 (nB : Int), .int .i64 (wB : Int)] 213)).heap[w3.heap.size]? = some (.cells #[.string PB, .int .i64 (nB : Int), .int .i64 (wB : Int)] 213 (0, 0)) := heap_alloc_new w3 _
  have hba : Below w3.heap.size w3 (w3.alloc (.cells #[.string PB, .int .i64 (nB : Int), .int .i64 (wB : Int)] 213)) := (Below.refl _ w3).alloc (Nat.le_refl _) _
  have HB4 := hid (HB3.out.trans (hba.mono HB3.out.size))
  have HE4 := hid (HE3.below hba)
  clear hz3 hb3 HE3 hba HB1 HB3 HEa HNB HZ1
  obtain ⟨oa, hoa⟩ : ∃ o, hasL (lst a) = o := ⟨_, rfl⟩
  obtain ⟨ob, hob⟩ : ∃ o, hasL (lst b) = o := ⟨_, rfl⟩
  rw [hoa, hob] at hdef
  rw [hoa, hob]
  clear hoa hob
  have a1 : (w3.alloc (.cells #[.string PB, .int .i64 (nB : Int), .int .i64 (wB : Int)] 213)).cell? ⟨w1.heap.size, 1, none⟩ = some (.int .i64 (nA : Int)) := by rw [Lib.cell_of_heap hza]; rfl
  have b1 : (w3.alloc (.cells #[.string PB, .int .i64 (nB : Int), .int .i64 (wB : Int)] 213)).cell? ⟨w3.heap.size, 1, none⟩ = some (.int .i64 (nB : Int)) := by rw [Lib.cell_of_heap hzb]; rfl
  have a0 : (w3.alloc (.cells #[.string PB, .int .i64 (nB : Int), .int .i64 (wB : Int)] 213)).cell? ⟨w1.heap.size, 0, none⟩ = some (.string PA) := by rw [Lib.cell_of_heap hza]; rfl
  have a2 : (w3.alloc (.cells #[.string PB, .int .i64 (nB : Int), .int .i64 (wB : Int)] 213)).cell? ⟨w1.heap.size, 2, none⟩ = some (.int .i64 (wA : Int)) := by rw [Lib.cell_of_heap hza]; rfl
  clear hza hzb
  cases oa with
  | false =>
    have hR0 : Hid (R = 0) := hid (by rw [hdef.out, if_neg (by simp)])
    have eN : IntKind.i64.wrap ((nB : Int) - (nA : Int)) = (nB : Int) - (nA : Int) := IntWalk.i64_in _ (by omega)
    go_wp2
    go_ret
    rw [hR0.out]
    exact ⟨rfl, HB4.out⟩
  | true =>
    cases ob with
    | false =>
      have hR0 : Hid (R = 0) := hid (by rw [hdef.out, if_neg (by simp)])
      have eN : IntKind.i64.wrap ((nB : Int) - (nA : Int)) = (nB : Int) - (nA : Int) := IntWalk.i64_in _ (by omega)
      go_wp2
      go_ret
      rw [hR0.out]
      exact ⟨rfl, HB4.out⟩
    | true =>
      by_cases hle : nA ≤ nB
      · obtain ⟨d, hd⟩ : ∃ d, nB = nA + d := ⟨nB - nA, by omega⟩
        have eN : IntKind.i64.wrap ((nB : Int) - (nA : Int)) = (d : Int) := by rw [IntWalk.i64_in _ (by omega)]; omega
        have eN2 : (nB : Int) - (nA : Int) = (d : Int) := by omega
        have hdn : nA + d ≤ 1000000000000000000 := by omega
        have hd0 : ¬ (d : Int) < 0 := by omega
        have hd1 : decide ((d : Int) < 0) = false := decide_eq_false hd0
        have eD : IntKind.i64.wrap ((d : Int) + 1) = (d : Int) + 1 := IntWalk.i64_in _ (by omega)
        have HD := hid hd
        clear hle hd
        go_wp2_with fail
        refine (after_any PA nA wA d hPAs hdn hwA16 _ HE4.out).mono ?_
        rintro e w5 ⟨⟨X, rfl, hX⟩, hb5⟩
        have HX := hid hX
        have HB5 := hid (HB4.out.trans (hb5.mono HB4.out.size))
        rcases @str_eq X b with ⟨h1, h2, h3⟩ | ⟨h1, h2, h3⟩
        · have hR1 : Hid (R = d + 1) := hid (by rw [hdef.out, if_pos ⟨by trivial, by trivial, by have := HD.out; omega, by rw [HD.out, ← HX.out]; exact h1⟩]; have := HD.out; omega)
          clear h1 hX hb5 hdef
          go_wp2
          go_ret
          rw [hR1.out]
          exact ⟨by go_num, HB5.out⟩
        · have hR0 : Hid (R = 0) := hid (by rw [hdef.out, if_neg (fun h => h1 (by rw [HX.out, ← HD.out]; exact h.2.2.2))])
          clear h1 hX hb5 hdef
          go_wp2
          go_ret
          rw [hR0.out]
          exact ⟨rfl, HB5.out⟩
      · have hR0 : Hid (R = 0) := hid (by rw [hdef.out, if_neg (fun h => hle h.2.2.1)])
        have eN : IntKind.i64.wrap ((nB : Int) - (nA : Int)) = (nB : Int) - (nA : Int) := IntWalk.i64_in _ (by omega)
        have hz : (nB : Int) - (nA : Int) < 0 := by omega
        have hz' : decide ((nB : Int) - (nA : Int) < 0) = true := decide_eq_true hz
        have hz2 : (nB : Int) < (nA : Int) := by omega
        clear hle
        go_wp2
        go_ret
        rw [hR0.out]
        exact ⟨rfl, HB4.out⟩
end Go.Proofs.YtigdcgklpapfbaaGreatDoor.S3

set_option linter.unusedVariables false
namespace Go.Proofs.YtigdcgklpapfbaaGreatDoor.S3
open Go Go.Proofs Go.RowKit Go.Lib

def nthS (s : Str) (j : Nat) : Str := preS s ++ wrS (numL s + j) (lastS s).length
/-- The first codes of a range. -/
def expandL (s : Str) (n : Nat) : List Str := s :: (List.range (n - 1)).map (fun j => nthS s (j + 1))
theorem expandL_snoc (s : Str) (n : Nat) (h : 1 ≤ n) : expandL s (n + 1) = expandL s n ++ [nthS s n] := by
  obtain ⟨m, rfl⟩ : ∃ m, n = m + 1 := ⟨n - 1, by omega⟩
  unfold expandL
  rw [show m + 1 + 1 - 1 = m + 1 by omega, show m + 1 - 1 = m by omega, List.range_succ]
  simp
theorem expandL_len (s : Str) (n : Nat) (h : 1 ≤ n) : (expandL s n).length = n := by
  unfold expandL
  simp
  omega
theorem ba_lst (s : ByteArray) : (⟨(lst s).toArray⟩ : ByteArray) = s := by cases s; rfl
theorem strV_lst (s : ByteArray) : strV (lst s) = .string s := by unfold strV; rw [ba_lst]

set_option maxHeartbeats 1000000 in
theorem clone_any (s : ByteArray) (hs : s.size ≤ 281474976710656) (w : World) : Calls Tryz.prog 237 #[.string s] w fun e w' => e = .returned (.string s) ∧ Below w.heap.size w w' := by
  go_enter Tryz.func237, Tryz.ntmps237
  go_wp2_with fail
  refine (Tryz.stringslite_Clone s _ hs).mono ?_
  rintro e w' ⟨rfl, hb⟩
  go_wp2
  go_ret
  exact ⟨rfl, hb⟩
theorem fresh_row (w : World) (s : Str) : StrRow (w.alloc (.cells #[strV s] 9)) w.heap.size (.slice (some ⟨w.heap.size, 0, none⟩) 1 1) [s] := by
  refine ⟨rfl, .inr ⟨w.heap.size, 1, #[strV s], rfl, Nat.le_refl _, heap_alloc_new w _, Nat.le_refl _, by unfold maxLen; omega, rfl, rfl⟩⟩

theorem row_kind9 {w : World} {B e z n : Nat} {v : Value} {xs : List Value} (h : w.ownsRow B e z v n xs) (g : Nat) (hg : v.ownBlock = some g) : ∃ c, w.heap[g]? = some (.cells c e (0, 0)) := by
  rcases h.2 with ⟨rfl, _⟩ | ⟨k, cap, cur, rfl, _, hh, _⟩
  · simp [Value.ownBlock] at hg
  · simp only [Value.ownBlock, Option.some.injEq] at hg
    subst hg
    exact ⟨cur, hh⟩
theorem env_grown {w w' : World} {B : Nat} (h : Env w) (hb : Below B w w') (hB : 8 < B) : Env w' := by
  obtain ⟨m, hm⟩ := h.m
  obtain ⟨ev, he, hk⟩ := h.ev
  exact ⟨⟨m, (hb.cell (p := ⟨7, 0, none⟩) (by show 7 < B; omega)).trans hm⟩, ⟨ev, (hb.cell (p := ⟨8, 0, none⟩) (by show 8 < B; omega)).trans he, hk⟩,
    var_below hb gTab (by omega) h.tab, Nat.le_trans h.size hb.size⟩
/-- What hands back a list of strings of its own. -/
def RowOut (l : List Str) (w : World) (e : Ending) (w' : World) : Prop := (∃ v, e = .returned v ∧ StrRow w' w.heap.size v l) ∧ Below w.heap.size w w'
set_option maxHeartbeats 4000000 in
set_option maxRecDepth 100000 in
theorem expand_any (s : ByteArray) (n : Nat) (hs : s.size ≤ 16) (h1 : 1 ≤ n) (hn : n ≤ 64) (w : World) (hE : Env w) :
    Calls Tryz.prog 193 #[.string s, .int .i64 (n : Int)] w (RowOut (expandL (lst s) n) w) := by
  have h8 := hE.size
  have hsm := numL_small (lst s) (len16 hs)
  have hll := last_len (lst s) (len16 hs)
  have cC := clone_any s (by omega) w
  have HE := hid hE
  have CC := hid cC
  obtain ⟨i9, hi9, hz9, hsi9, hby9⟩ := info_parts infoStr
  clear hE cC
  go_enter Tryz.func193, Tryz.ntmps193
  go_wp2_with fail
  refine CC.out.mono ?_
  rintro e w1 ⟨rfl, hb1⟩
  have hrow := fresh_row w1 (lst s)
  rw [strV_lst] at hrow
  have hba : Below w1.heap.size w1 (w1.alloc (.cells #[.string s] 9)) := (Below.refl _ w1).alloc (Nat.le_refl _) _
  have HB1 := hid (hb1.trans (hba.mono hb1.size))
  have HE1 := hid ((HE.out.below hb1).below hba)
  have HR1 := hid (StrRow.mono hrow hb1.size)
  clear hrow hba hb1 HE CC
  go_wp2_with fail
  generalize w1.alloc (.cells #[.string s] 9) = w2 at HB1 HE1 HR1 ⊢
  refine (divide_any s hs _ HE1.out).mono ?_
  rintro e w3 ⟨⟨P, rfl, hP⟩, hb3⟩
  unfold divV
  have hPs : P.size ≤ 16 := by rw [Lib.size_eq, show P.data.toList = _ from hP]; exact hll.2
  obtain ⟨nA, hnA⟩ : ∃ n, numL (lst s) = n := ⟨_, rfl⟩
  obtain ⟨wA, hwA⟩ : ∃ n, (lastS (lst s)).length = n := ⟨_, rfl⟩
  have hwA16 : wA ≤ 16 := by rw [← hwA]; exact hll.1
  rw [hnA] at hsm
  have hnth : Hid (∀ j, nthS (lst s) j = lst P ++ wrS (nA + j) wA) := hid (fun j => by unfold nthS; rw [hnA, hwA, hP])
  rw [hnA, hwA]
  have hR3 := row_under HR1.out hb3
  have hE3 := HE1.out.below hb3
  have hba : Below w3.heap.size w3 (w3.alloc (.cells #[.string P, .int .i64 (nA : Int), .int .i64 (wA : Int)] 213)) := (Below.refl _ w3).alloc (Nat.le_refl _) _
  have hz : (w3.alloc (.cells #[.string P, .int .i64 (nA : Int), .int .i64 (wA : Int)] 213)).heap[w3.heap.size]? = some (.cells #[.string P, .int .i64 (nA : Int), .int .i64 (wA : Int)] 213 (0, 0)) := heap_alloc_new w3 _
  have HR := hid (row_under hR3 hba)
  have HE := hid (hE3.below hba)
  have HB := hid ((HB1.out.trans (hb3.mono HB1.out.size)).trans (hba.mono (Nat.le_trans HB1.out.size hb3.size)))
  have HZ := hid hz
  have hws : w.heap.size ≤ w3.heap.size := Nat.le_trans HB1.out.size hb3.size
  have hsz : (w3.alloc (.cells #[.string P, .int .i64 (nA : Int), .int .i64 (wA : Int)] 213)).heap.size = w3.heap.size + 1 := by simp
  clear hnA hwA hP hll hb3 hR3 hE3 hba hz HB1 HE1 HR1
  go_wp2_with fail
  generalize w3.alloc (.cells #[.string P, .int .i64 (nA : Int), .int .i64 (wA : Int)] 213) = w4 at HR HE HB HZ hsz ⊢
  go_loopw [5, 8] (fun v iv wr => ∃ i : Nat, iv = .int .i64 (i : Int) ∧ 1 ≤ i ∧ i ≤ n ∧ StrRow wr w.heap.size v (expandL (lst s) i) ∧ Hid (wr.heap[w3.heap.size]? = some (.cells #[.string P, .int .i64 (nA : Int), .int .i64 (wA : Int)] 213 (0, 0))) ∧ Hid (Env wr) ∧ Hid (Below w.heap.size w wr)) (fun _ iv _ => n - (RowKit.intOf iv).toNat)
  case atStart => exact ⟨1, rfl, Nat.le_refl _, h1, HR.out, HZ, HE, HB⟩
  case round =>
    obtain ⟨i, rfl, hi1, hin, hrow, hZ, hEr, hBr⟩ := hrel
    by_cases hlt : i < n
    · have hltz : (i : Int) < (n : Int) := by omega
      have c0 : wr.cell? ⟨w3.heap.size, 0, none⟩ = some (.string P) := by rw [Lib.cell_of_heap hZ.out]; rfl
      have c1 : wr.cell? ⟨w3.heap.size, 1, none⟩ = some (.int .i64 (nA : Int)) := by rw [Lib.cell_of_heap hZ.out]; rfl
      have c2 : wr.cell? ⟨w3.heap.size, 2, none⟩ = some (.int .i64 (wA : Int)) := by rw [Lib.cell_of_heap hZ.out]; rfl
      have HRow := hid hrow
      have cA := hid (after_any P nA wA i hPs (by omega) hwA16 wr hEr.out)
      have hel := expandL_len (lst s) i hi1
      have HEL := hid hel
      clear hrow hel
      go_wp2_with fail
      refine cA.out.mono ?_
      rintro e w5 ⟨⟨X, rfl, hX⟩, hb5⟩
      have hlt3 : w3.heap.size < wr.heap.size := (Array.getElem?_eq_some_iff.1 hZ.out).1
      have hrow5 : StrRow w5 w.heap.size _ (expandL (lst s) i) := row_under HRow.out hb5
      have HRow5 := hid hrow5
      have HZ5 := hid ((hb5.block _ hlt3).trans hZ.out)
      have HE5 := hid (hEr.out.below hb5)
      have HB5 := hid (hBr.out.trans (hb5.mono hBr.out.size))
      have hnew : Hid (lst X = nthS (lst s) i) := hid (by rw [hnth.out]; exact hX)
      have HC3 : Hid ((expandL (lst s) i).length + 1 ≤ maxLen) := by unfold maxLen; exact hid (by have := HEL.out; omega)
      have HC4 : Hid (((expandL (lst s) i).length + 1) * 16 ≤ 140737488355328) := hid (by have := HEL.out; omega)
      have HC5 : Hid (∀ o : Obj, w.heap.size ≤ (w5.alloc o).heap.size) := hid (fun o => by have := HB5.out.size; simp; omega)
      clear hX hb5 hrow5 hlt3 c0 c1 c2 cA HRow
      go_wp2_with (at_builtin; refine wpList_append_own _ rfl _ _ 30 rfl w.heap.size 9 i9 (.string ⟨#[]⟩) 1 16 Tryz.underlying30 hi9 hz9 hsi9 hby9 rfl (by decide) _ (expandL (lst s) i).length (strVals (expandL (lst s) i)) rfl (World.ownsRow.alloc HRow5.out _) ⟨w5.heap.size, 0, none⟩ 1 1 [.string X] rfl rfl (one_new _ _ _) (one_str _) HC3.out HC4.out (HC5.out _) ?_)
      intro v' w6 hown' hgrow _
      have hg' := grownBy_of_alloc hgrow
      have hb56 : Below w.heap.size w5 w6 := (Below.refl _ w5).grown hg' HB5.out.size (fun k hk => (World.ownsRow.lt HRow5.out k hk).1)
      have hZ6 : w6.heap[w3.heap.size]? = some (.cells #[.string P, .int .i64 (nA : Int), .int .i64 (wA : Int)] 213 (0, 0)) := by
        refine (hg'.block _ (Array.getElem?_eq_some_iff.1 HZ5.out).1 ?_).trans HZ5.out
        intro e
        obtain ⟨cc, hcc⟩ := row_kind9 HRow5.out _ e.symm
        rw [HZ5.out] at hcc
        injection hcc with hcc
        injection hcc with _ h2 _
        cases h2
      have HE6 := hid (env_grown HE5.out hb56 h8)
      go_wp2
      go_roundw
      case rel =>
        refine ⟨i + 1, by go_num, by omega, by omega, ?_, hid hZ6, HE6, hid (HB5.out.trans hb56)⟩
        rw [expandL_snoc _ _ hi1, ← hnew.out]
        unfold StrRow
        rw [strVals_app, List.length_append]
        have h9 := hown'
        rw [← strV_lst] at h9
        exact h9
      case measure => simp [RowKit.intOf]; omega
    · have hltz : ¬ (i : Int) < (n : Int) := by omega
      obtain rfl : n = i := by omega
      obtain ⟨Ar, cr, rfl⟩ := row_slice hrow
      have HRow := hid hrow
      clear hrow
      go_wp2
      go_ret
      exact ⟨⟨_, rfl, HRow.out⟩, hBr.out⟩
end Go.Proofs.YtigdcgklpapfbaaGreatDoor.S3

set_option linter.unusedVariables false
namespace Go.Proofs.YtigdcgklpapfbaaGreatDoor.S3
open Go Go.Proofs Go.RowKit Go.Lib

def checkGo : List Str → List Str → Int
  | _, [] => 0
  | seen, c :: r => if validC c = false then 10 else if c ∈ seen then 11 else checkGo (seen ++ [c]) r
/-- The first error of a list of codes. -/
def checkM (l : List Str) : Int := if 64 < l.length then 2 else checkGo [] l
theorem checkGo_step (l : List Str) (i : Nat) (h : i < l.length) : checkGo (l.take i) (l.drop i) = if validC l[i] = false then 10 else if l[i] ∈ l.take i then 11 else checkGo (l.take (i + 1)) (l.drop (i + 1)) := by
  rw [List.drop_eq_getElem_cons h, checkGo, List.take_succ_eq_append_getElem h]
def ba (s : Str) : ByteArray := ⟨s.toArray⟩
theorem ba_inj {a b : Str} (h : ba a = ba b) : a = b := by
  have := congrArg lst h
  exact this
theorem contains_ba (l : List Str) (i : Nat) (s : Str) : Lib.containsS ((l.map ba).take i) (ba s) = decide (s ∈ l.take i) := by
  rw [Bool.eq_iff_iff, Lib.containsS_iff, decide_eq_true_eq, ← List.map_take]
  constructor
  · intro h
    obtain ⟨x, hx, e⟩ := List.mem_map.1 h
    rw [← ba_inj e]
    exact hx
  · exact fun h => List.mem_map_of_mem h

set_option maxHeartbeats 4000000 in
set_option maxRecDepth 100000 in
theorem check_any (A : Option Addr) (l : List Str) (c : Nat) (Pp : Nat → Prop) (w : World) (h : StrsIn w Pp A l) (hlc : l.length ≤ c) (hc : c ≤ 9223372036854775807) :
    Calls Tryz.prog 145 #[.slice A l.length c] w fun e w' => e = .returned (.int .i64 (checkM l)) ∧ w = w' := by
  obtain ⟨R, hR⟩ : ∃ R, checkM l = R := ⟨_, rfl⟩
  rw [hR]
  by_cases h64 : 64 < l.length
  · have hz : (64 : Int) < (l.length : Int) := by omega
    have hr : Hid (R = 2) := hid (by rw [← hR]; exact if_pos h64)
    clear hR h
    go_enter Tryz.func145, Tryz.ntmps145
    go_wp2
    go_ret
    rw [hr.out]
    exact ⟨rfl, rfl⟩
  · have hz : ¬ (64 : Int) < (l.length : Int) := by omega
    have hr : Hid (R = checkGo (l.take 0) (l.drop 0)) := hid (by rw [← hR]; exact if_neg h64)
    have H := hid h
    clear hR h
    go_enter Tryz.func145, Tryz.ntmps145
    go_wp2
    go_loop [3, 4, 10] (fun _ _ iv => ∃ i : Nat, iv = .int .i64 (i : Int) ∧ i ≤ l.length ∧ Hid (R = checkGo (l.take i) (l.drop i))) (fun _ _ iv => l.length - (RowKit.intOf iv).toNat)
    case atStart => exact ⟨0, rfl, Nat.zero_le _, hr⟩
    case round =>
      obtain ⟨i, rfl, hi, hE⟩ := hrel
      by_cases hlt : i < l.length
      · have hltz : (i : Int) < (l.length : Int) := by omega
        have hst := hid (checkGo_step l i hlt)
        obtain ⟨b, off, rfl, _, hc0⟩ := H.out.at_ hlt
        have hcell : ∀ j, j < (l.map ba).length → w.cell? ⟨b, off + j, none⟩ = some (.string ((l.map ba).getD j ByteArray.empty)) := fun j hj => by
          have hj' : j < l.length := by simpa using hj
          obtain ⟨b', off', e, _, hc'⟩ := H.out.at_ hj'
          injection e with e
          injection e with e1 e2 _
          subst e1 e2
          rw [hc']
          simp [List.getD, List.getElem?_eq_getElem hj', strV, ba]
        have hc1 : w.cell? ⟨b, off + i, none⟩ = some (.string (ba l[i])) := hc0
        have cV := valid_any (ba l[i])
        have cC := Tryz.slices_Contains_string b off i c (l.map ba) (ba l[i]) w (by simp; omega) (by omega) hcell
        rw [contains_ba] at cC
        obtain ⟨x, hx⟩ : ∃ x, l[i] = x := ⟨_, rfl⟩
        rw [hx] at hc1 cV cC hst
        rw [show (ba x).data.toList = x from rfl] at cV
        obtain ⟨X, hX⟩ : ∃ X, ba x = X := ⟨_, rfl⟩
        rw [hX] at hc1 cV cC
        clear hcell hc0 hx hX
        have hizc : (i : Int) ≤ (c : Int) := by omega
        have hi0 : (0 : Int) ≤ (i : Int) := by omega
        cases hv : validC x with
        | false =>
          rw [hv] at cV
          have hn : Hid (R = 10) := hid (by rw [hE.out, hst.out, if_pos hv])
          clear hv cC hst
          go_wp2_with fail
          refine (cV _).mono ?_
          rintro e w' ⟨rfl, rfl⟩
          go_wp2
          go_ret
          rw [hn.out]
          exact ⟨rfl, rfl⟩
        | true =>
          rw [hv] at cV
          by_cases hm : x ∈ l.take i
          · rw [decide_eq_true hm] at cC
            have hn : Hid (R = 11) := hid (by rw [hE.out, hst.out, if_neg (by rw [hv]; simp), if_pos hm])
            clear hv hm hst
            go_wp2_with fail
            refine (cV _).mono ?_
            rintro e w' ⟨rfl, rfl⟩
            go_wp2_with fail
            refine cC.mono ?_
            rintro e w' ⟨rfl, rfl⟩
            go_wp2
            go_ret
            rw [hn.out]
            exact ⟨rfl, rfl⟩
          · rw [decide_eq_false hm] at cC
            have hn : Hid (R = checkGo (l.take (i + 1)) (l.drop (i + 1))) := hid (by rw [hE.out, hst.out, if_neg (by rw [hv]; simp), if_neg hm])
            clear hv hm hst
            go_wp2_with fail
            refine (cV _).mono ?_
            rintro e w' ⟨rfl, rfl⟩
            go_wp2_with fail
            refine cC.mono ?_
            rintro e w' ⟨rfl, rfl⟩
            go_wp2
            go_round
            case rel => exact ⟨i + 1, by go_num, by omega, hn⟩
            case measure => simp [RowKit.intOf]; omega
      · have hltz : ¬ (i : Int) < (l.length : Int) := by omega
        have hn : Hid (R = 0) := hid (by rw [hE.out, List.drop_of_length_le (by omega)]; rfl)
        go_wp2
        go_ret
        rw [hn.out]
        exact ⟨rfl, rfl⟩
end Go.Proofs.YtigdcgklpapfbaaGreatDoor.S3

