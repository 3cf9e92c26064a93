/-
  Entries with different codes: the function that Distinct of package entries returns, at classes. Conditions: the map is one of the call's own, with the codes l; the code fits into memory.
  Whether a grid and a number of weeks are a frame: IsFrame of timelists. No condition.
-/
import Derived.Test.YtigdcgklpapfbaaGreatDoorVN01
import Derived.Test.YtigdcgklpapfbaaGreatDoorVN02
import Derived.Test.YtigdcgklpapfbaaGreatDoorVN03
import Derived.Test.YtigdcgklpapfbaaGreatDoorVN04
import Derived.Test.YtigdcgklpapfbaaGreatDoorVN06
import Derived.Test.YtigdcgklpapfbaaGreatDoorVN09
import Derived.Test.YtigdcgklpapfbaaGreatDoorVN10
import Derived.Test.YtigdcgklpapfbaaGreatDoorVN11
import Derived.Test.YtigdcgklpapfbaaGreatDoorVN12
import Derived.Test.YtigdcgklpapfbaaGreatDoorVN13
import Derived.Test.YtigdcgklpapfbaaGreatDoorVN14
import Derived.Test.YtigdcgklpapfbaaGreatDoorVN15
import Derived.Test.YtigdcgklpapfbaaGreatDoorVN16
import Derived.Test.YtigdcgklpapfbaaGreatDoorProg
import Derived.WalkKit
import Derived.WalkSpells
import Derived.WalkLawsBesides
import Derived.Lib.Hide
import Derived.Deep.QuietTactic
import Derived.BigQuiet
import Derived.Laws.Rows
import Derived.OwnWalk
import Derived.Lib.BufferWrite
import Derived.Lib.UnsafeStr
import Derived.Laws.IdiomStrings
import Derived.Laws.BytesArg
import Derived.Laws.BytesString
import Derived.Laws.OwnMore
import Derived.Lib.IndexLaws
import Derived.Lib.ItoaNum
import Derived.Lib.Atoi
import Derived.Laws.BitsAllLaws
import Derived.Laws.BitsLemmas
import Derived.Deep.MidRow
import Derived.Shelf.Strings.Builder1
import Derived.Shelf.Strings.Builder2
import Derived.Shelf.Strings.OnBuilder
import Derived.Shelf.Strings.Trim
import Derived.Shelf.Small.Bits
import Derived.Shelf.Small.Strs
import Derived.Shelf.Small.Wraps
import Derived.Shelf.Strings.BuilderF
import Derived.Shelf.Strings.BuilderK
import Derived.Shelf.Strings.Builder2Cap
import Derived.Shelf.Strconv.Atoi
import Derived.Shelf.Strconv.Itoa0
import Derived.Shelf.Strconv.Itoa1
import Derived.Shelf.LaysM
import Derived.Shelf.Strconv.Itoa2
import Derived.Shelf.Strconv.Itoa3
import Derived.Shelf.Strconv.AtoiErrFast
import Derived.Shelf.Strconv.ParseIntEmpty
import Derived.Shelf.Strconv.AtoiFail
import Derived.Shelf.Strconv.Clone
import Derived.Shelf.Strconv.SyntaxError
import Derived.Shelf.LaysC
import Derived.Shelf.Strconv.ToError
import Derived.Shelf.Strconv.AtoiErr
import Derived.Shelf.Strings.Search1
import Derived.Shelf.Strings.Search2
import Derived.Shelf.Strings.Search3
import Derived.Shelf.Strings.Cut
import Derived.Shelf.Strings.Shaped
import Derived.Shelf.Strings.Prefix
import Derived.Shelf.Strings.Runes
import Derived.Shelf.Strings.AsciiSet
import Derived.Shelf.Bits.Mul64
import Derived.Shelf.Strings.Repeat
import Derived.Shelf.Unicode.DecodeSlow
import Derived.Shelf.Strings.BuilderCap
import Derived.Shelf.Slices.Turned
import Derived.Ground.SlgfProg
import Derived.Shelf.SlicesE.IndexFunc
import Derived.Lib.AtoiErrMem
import Derived.Handy
import Derived.RangeFuncNested
import Derived.RangeFuncBound
import Derived.RangeFuncCalls
import Derived.RangeFuncLeaves
import Derived.Shelf.Abstract
import Derived.Shelf.RegionOpen
import Derived.OwnWalkIn
import Derived.Lib.Bytealg
import Derived.Lib.SlTrimSet
import Derived.Shelf.Strings.SlTrimAscii
import Derived.Laws.ResultCell
import Derived.RegionTactic
import Derived.Lib.Repeat
import Derived.Deep.RegionHeld3
import Derived.Lib.SlicesS
import Derived.TacticsInMore
import Derived.LoopNIn
import Derived.LoopIn
import Derived.Deep.DeepCutAuto
import Derived.Lib.Join
import Derived.Laws.Concat
import Derived.Maps.OwnSet
import Derived.Maps.Range
import Derived.Sort.EncStr
import Derived.Deep.RegionLaw
set_option linter.unusedVariables false
namespace Go.Proofs.YtigdcgklpapfbaaGreatDoor.S10
open Go Go.Proofs Go.RowKit Go.Lib Go.Proofs.YtigdcgklpapfbaaGreatDoor
open Go.Maps (Keyed string_keyed)
open Go.WideMaps (keyOf_string_mk)

/-- How a class reads in the map of known ones: all that matters is that it is one. -/
def aggL : Value → Option (DataW Unit × List MemPlace)
  | .agg ⟨[.string _, .string _, .string _, .int .i64 _, .slice _ _ _, .int .i64 _, .slice _ _ _, .slice _ _ _, .slice _ _ _]⟩ => some (.agg [], [])
  | _ => none
theorem aggL_mk (c k1 k2 : ByteArray) (i3 : Int) (A4 : Option Addr) (n4 c4 : Nat) (i5 : Int) (A6 : Option Addr) (n6 c6 : Nat) (A7 : Option Addr) (n7 c7 : Nat) (A8 : Option Addr) (n8 c8 : Nat) : aggL (.agg #[.string c, .string k1, .string k2, .int .i64 i3, .slice A4 n4 c4, .int .i64 i5, .slice A6 n6 c6, .slice A7 n7 c7, .slice A8 n8 c8]) = some (.agg [], []) := rfl
theorem aggL_inv {v : Value} {z : DataW Unit × List MemPlace} (h : aggL v = some z) : ∃ (c k1 k2 : ByteArray) (i3 : Int) (A4 : Option Addr) (n4 c4 : Nat) (i5 : Int) (A6 : Option Addr) (n6 c6 : Nat) (A7 : Option Addr) (n7 c7 : Nat) (A8 : Option Addr) (n8 c8 : Nat), v = .agg #[.string c, .string k1, .string k2, .int .i64 i3, .slice A4 n4 c4, .int .i64 i5, .slice A6 n6 c6, .slice A7 n7 c7, .slice A8 n8 c8] := by
  unfold aggL at h
  split at h
  · exact ⟨_, _, _, _, _, _, _, _, _, _, _, _, _, _, _, _, _, rfl⟩
  · cases h
/-- Block B is the map of the classes with the codes l. -/
structure KMap (w : World) (B : Nat) (l : List Str) : Prop where
  own : w.ownsMap Tryz.prog 9 aggL B l.length (setR l)
  sz : Maps.size (setR l) = l.length
theorem KMap.made (w : World) : KMap (w.alloc (.map #[] 0)) w.heap.size [] := ⟨World.ownsMap_made _ _ _ _, rfl⟩
theorem KMap.kept {w w' : World} {B : Nat} {l : List Str} {row : Option Nat} (h : KMap w B l) (hg : w.grownBy w' row) (hne : some B ≠ row) : KMap w' B l := ⟨h.own.kept hg hne, h.sz⟩
theorem KMap.below {w w' : World} {B : Nat} {l : List Str} (h : KMap w B l) (hb : Below w.heap.size w w') : KMap w' B l := h.kept (below_grown hb (Nat.le_refl _)) (by simp)
theorem KMap.lt {w : World} {B : Nat} {l : List Str} (h : KMap w B l) : B < w.heap.size := h.own.lt
theorem zeroLect (w : World) : (zeroValue 33).run Tryz.prog w = .ok (.agg #[.string ⟨#[]⟩, .string ⟨#[]⟩, .string ⟨#[]⟩, .int .i64 0, .slice none 0 0, .int .i64 0, .slice none 0 0, .slice none 0 0, .slice none 0 0]) w := by kernel_rfl
theorem wpList_lookup_lect {P : Program} (w : World) {ops : Array Oper} {rest : List Oper} {o : Oper} {a : Act} {Q : Exit → Act → World → Prop} (hg : o.guard = none) (m x : Operand) (t : TypeId) (hop : o.op = Op.lookup t m x true)
    (k e : TypeId) (K : Keyed P k) (ht : P.underlying t = some (.map k e)) {z : Value} (hz : (zeroValue e).run P w = .ok z w) (hzd : aggL z = some (.agg [], [])) (b n : Nat) (D : DataW Unit)
    (hm : a.eval m = .map (some b)) (hown : w.ownsMap P k aggL b n D) (key : Value) (kl : Lit) (hx : a.eval x = key) (hkey : keyOf P k key = some kl)
    (hK : ∀ (c k1 k2 : ByteArray) (i3 : Int) (A4 : Option Addr) (n4 c4 : Nat) (i5 : Int) (A6 : Option Addr) (n6 c6 : Nat) (A7 : Option Addr) (n7 c7 : Nat) (A8 : Option Addr) (n8 c8 : Nat), wpList P ops Q rest (a.put o.dst (.tuple #[.agg #[.string c, .string k1, .string k2, .int .i64 i3, .slice A4 n4 c4, .int .i64 i5, .slice A6 n6 c6, .slice A7 n7 c7, .slice A8 n8 c8], .bool (Maps.has D kl)])) w) :
    wpList P ops Q (o :: rest) a w :=
  wpList_lookup_own_ok w hg m x t hop k e K ht aggL hz (.agg []) [] hzd b n D hm hown key kl hx hkey (fun v ps hv => by
    obtain ⟨c, k1, k2, i3, A4, n4, c4, i5, A6, n6, c6, A7, n7, c7, A8, n8, c8, rfl⟩ := aggL_inv hv
    exact hK c k1 k2 i3 A4 n4 c4 i5 A6 n6 c6 A7 n7 c7 A8 n8 c8)
/-- What the function leaves behind. -/
def AddOutK (most : Nat) (l : List Str) (c : Str) (B : Nat) (w : World) (e : Ending) (w' : World) : Prop := e = .returned (.int .i64 (addK most l c).2) ∧ KMap w' B (addK most l c).1 ∧ w.grownBy w' (some B)
/-- What the function has captured. -/
structure DistIn (w : World) (KB AB MB M : Nat) : Prop where
  k : Box1 w KB 85 (.func (.func 51) #[] #[])
  a : Box1 w AB 123 (.map (some M))
  m : Box1 w MB 3 (.int .i64 24)
theorem DistIn.kept {w w' : World} {KB AB MB M : Nat} (h : DistIn w KB AB MB M) (hk : ∀ b, b = KB ∨ b = AB ∨ b = MB → w'.heap[b]? = w.heap[b]?) : DistIn w' KB AB MB M :=
  ⟨h.k.kept (hk _ (.inl rfl)), h.a.kept (hk _ (.inr (.inl rfl))), h.m.kept (hk _ (.inr (.inr rfl)))⟩
theorem DistIn.next {w w' : World} {KB AB MB M : Nat} (h : DistIn w KB AB MB M) (hb : Below w.heap.size w w') : DistIn w' KB AB MB M := ⟨h.k.next hb, h.a.next hb, h.m.next hb⟩

set_option maxHeartbeats 1000000 in
theorem codeOf_any (c k1 k2 : ByteArray) (i3 : Int) (A4 : Option Addr) (n4 c4 : Nat) (i5 : Int) (A6 : Option Addr) (n6 c6 : Nat) (A7 : Option Addr) (n7 c7 : Nat) (A8 : Option Addr) (n8 c8 : Nat) (w : World) : Calls Tryz.prog 51 #[.agg #[.string c, .string k1, .string k2, .int .i64 i3, .slice A4 n4 c4, .int .i64 i5, .slice A6 n6 c6, .slice A7 n7 c7, .slice A8 n8 c8]] w fun e w' => e = .returned (.string c) ∧ Below w.heap.size w w' := by
  go_enter Tryz.func51, Tryz.ntmps51
  go_wp2
  go_ret
  exact ⟨rfl, (Below.refl _ _).alloc (Nat.le_refl _) _⟩

set_option maxHeartbeats 4000000 in
set_option maxRecDepth 100000 in
theorem dist_any (KB AB MB M : Nat) (l : List Str) (c k1 k2 : ByteArray) (i3 : Int) (A4 : Option Addr) (n4 c4 : Nat) (i5 : Int) (A6 : Option Addr) (n6 c6 : Nat) (A7 : Option Addr) (n7 c7 : Nat) (A8 : Option Addr) (n8 c8 : Nat) (hl : l.length ≤ 24) (hc : c.size ≤ maxLen) (w : World) (hD : DistIn w KB AB MB M) (h : KMap w M l) :
    Calls Tryz.prog 79 #[.agg #[.string c, .string k1, .string k2, .int .i64 i3, .slice A4 n4 c4, .int .i64 i5, .slice A6 n6 c6, .slice A7 n7 c7, .slice A8 n8 c8], .pointer (some ⟨KB, 0, none⟩), .pointer (some ⟨AB, 0, none⟩), .pointer (some ⟨MB, 0, none⟩)] w (AddOutK 24 l (lst c) M w) := by
  have eg : ∀ args w, (callFunc 51 args).run Tryz.prog w = .ok (.enter 51 args) w := enters_of Tryz.func51 (by kernel_rfl) rfl
  unfold AddOutK addK
  have hkey : keyOf Tryz.prog 9 (.string c) = some (litS (lst c)) := keyOf_string_mk Tryz.underlying9 hc
  have hhas := has_setR l (lst c)
  have hBl := h.lt
  have hb1 := (Below.refl w.heap.size w).alloc (Nat.le_refl _) (.cells #[.string c, .string k1, .string k2, .int .i64 i3, .slice A4 n4 c4, .int .i64 i5, .slice A6 n6 c6, .slice A7 n7 c7, .slice A8 n8 c8] 33)
  have hX := BoxC.new w #[.string c, .string k1, .string k2, .int .i64 i3, .slice A4 n4 c4, .int .i64 i5, .slice A6 n6 c6, .slice A7 n7 c7, .slice A8 n8 c8]
  obtain ⟨w1, hw1⟩ : ∃ w1, w.alloc (.cells #[.string c, .string k1, .string k2, .int .i64 i3, .slice A4 n4 c4, .int .i64 i5, .slice A6 n6 c6, .slice A7 n7 c7, .slice A8 n8 c8] 33) = w1 := ⟨_, rfl⟩
  rw [hw1] at hb1 hX
  have hD1 := hD.next hb1
  have hM1 := h.below hb1
  have hkl := hD.k.lt
  have hkc := hD.k.cell
  have hk1 : (w.alloc (.cells #[.string c, .string k1, .string k2, .int .i64 i3, .slice A4 n4 c4, .int .i64 i5, .slice A6 n6 c6, .slice A7 n7 c7, .slice A8 n8 c8] 33)).cell? ⟨KB, 0, none⟩ = some (.func (.func 51) #[] #[]) := Lib.cell?_alloc_some _ hkc
  have H1 := hid hM1
  have HD1 := hid hD1
  have HX := hid hX
  have HB1 := hid hb1
  have HKEY := hid hkey
  have HW1 := hid hw1
  clear hM1 hD1 hX hb1 hkey hw1 h hD hkl hkc
  by_cases hm : lst c ∈ l
  · rw [if_pos hm]
    rw [decide_eq_true hm] at hhas
    have HHAS := hid hhas
    clear hhas hm
    go_enter Tryz.func79, Tryz.ntmps79
    go_wp2_with fail
    rw [HW1.out]
    refine (codeOf_any c k1 k2 i3 A4 n4 c4 i5 A6 n6 c6 A7 n7 c7 A8 n8 c8 w1).mono ?_
    rintro e w2 ⟨rfl, hb2⟩
    have hD2 := HD1.out.next hb2
    have hM2 := H1.out.below hb2
    have hX2 := HX.out.next hb2
    obtain ⟨x0, x1, x2, x3, x4, x5, x6, x7, x8⟩ := hX2.cells
    have a0 := hD2.a.cell
    have m0 := hD2.m.cell
    have al := hD2.a.lt
    have ml := hD2.m.lt
    have xl := hX2.lt
    have HB2 := hid (HB1.out.trans (hb2.mono HB1.out.size))
    have H2 := hid hM2
    clear hb2 hD2 hM2 hX2 hk1
    obtain ⟨W2, hW2⟩ : ∃ W2, W2 = w2 := ⟨_, rfl⟩
    clear hW2
    go_wp2_with (first
      | (at_lookup; refine wpList_lookup_lect _ rfl _ _ 123 rfl 9 33 law9 Tryz.underlying123 (zeroLect _) (aggL_mk _ _ _ _ _ _ _ _ _ _ _ _ _ _ _ _ _) M l.length (setR l) rfl H2.out.own _ _ rfl HKEY.out ?_; intro u0 u1 u2 u3 u4 u5 u6 u7 u8 u9 u10 u11 u12 u13 u14 u15 u16; rw [HHAS.out])
      | go_in)
    go_ret
    exact ⟨rfl, H2.out.below ((Below.refl _ _).alloc (Nat.le_refl _) _), grown_none (below_grown (HB2.out.trans ((Below.refl _ _).alloc HB2.out.size _)) (Nat.le_refl _))⟩
  · rw [if_neg hm]
    rw [decide_eq_false hm] at hhas
    have HHAS := hid hhas
    have hsz := H1.out.sz
    by_cases h16 : l.length = 24
    · rw [if_pos h16]
      rw [h16] at hsz
      have HSZ := hid hsz
      clear hhas hsz hm
      go_enter Tryz.func79, Tryz.ntmps79
      go_wp2_with fail
      rw [HW1.out]
      refine (codeOf_any c k1 k2 i3 A4 n4 c4 i5 A6 n6 c6 A7 n7 c7 A8 n8 c8 w1).mono ?_
      rintro e w2 ⟨rfl, hb2⟩
      have hD2 := HD1.out.next hb2
      have hM2 := H1.out.below hb2
      have hX2 := HX.out.next hb2
      obtain ⟨x0, x1, x2, x3, x4, x5, x6, x7, x8⟩ := hX2.cells
      have a0 := hD2.a.cell
      have m0 := hD2.m.cell
      have al := hD2.a.lt
      have ml := hD2.m.lt
      have xl := hX2.lt
      have HB2 := hid (HB1.out.trans (hb2.mono HB1.out.size))
      have H2 := hid hM2
      clear hb2 hD2 hM2 hX2 hk1
      obtain ⟨W2, hW2⟩ : ∃ W2, W2 = w2 := ⟨_, rfl⟩
      clear hW2
      go_wp2_with (first
        | (at_lookup; refine wpList_lookup_lect _ rfl _ _ 123 rfl 9 33 law9 Tryz.underlying123 (zeroLect _) (aggL_mk _ _ _ _ _ _ _ _ _ _ _ _ _ _ _ _ _) M l.length (setR l) rfl H2.out.own _ _ rfl HKEY.out ?_; intro u0 u1 u2 u3 u4 u5 u6 u7 u8 u9 u10 u11 u12 u13 u14 u15 u16; rw [HHAS.out])
        | (at_len; refine wpList_len_own _ rfl _ 123 rfl 9 33 Tryz.underlying123 aggL M l.length (setR l) rfl (H2.out.own.alloc _) ?_; rw [HSZ.out])
        | go_in)
      go_ret
      exact ⟨rfl, H2.out.below ((Below.refl _ _).alloc (Nat.le_refl _) _), grown_none (below_grown (HB2.out.trans ((Below.refl _ _).alloc HB2.out.size _)) (Nat.le_refl _))⟩
    · rw [if_neg h16]
      have HSZ := hid hsz
      have h16z : ((l.length : Nat) : Int) ≠ 24 := by omega
      have h16b : (((l.length : Nat) : Int) == 24) = false := by simpa using h16z
      clear hhas hsz hm
      go_enter Tryz.func79, Tryz.ntmps79
      go_wp2_with fail
      rw [HW1.out]
      refine (codeOf_any c k1 k2 i3 A4 n4 c4 i5 A6 n6 c6 A7 n7 c7 A8 n8 c8 w1).mono ?_
      rintro e w2 ⟨rfl, hb2⟩
      have hD2 := HD1.out.next hb2
      have hM2 := H1.out.below hb2
      have hX2 := HX.out.next hb2
      obtain ⟨x0, x1, x2, x3, x4, x5, x6, x7, x8⟩ := hX2.cells
      have a0 := hD2.a.cell
      have m0 := hD2.m.cell
      have al := hD2.a.lt
      have ml := hD2.m.lt
      have xl := hX2.lt
      have HB2 := hid (HB1.out.trans (hb2.mono HB1.out.size))
      have H2 := hid hM2
      clear hb2 hD2 hM2 hX2 hk1
      obtain ⟨W2, hW2⟩ : ∃ W2, W2 = w2 := ⟨_, rfl⟩
      clear hW2
      go_wp2_with (first
        | (at_lookup; refine wpList_lookup_lect _ rfl _ _ 123 rfl 9 33 law9 Tryz.underlying123 (zeroLect _) (aggL_mk _ _ _ _ _ _ _ _ _ _ _ _ _ _ _ _ _) M l.length (setR l) rfl H2.out.own _ _ rfl HKEY.out ?_; intro u0 u1 u2 u3 u4 u5 u6 u7 u8 u9 u10 u11 u12 u13 u14 u15 u16; rw [HHAS.out])
        | (at_len; refine wpList_len_own _ rfl _ 123 rfl 9 33 Tryz.underlying123 aggL M l.length (setR l) rfl (H2.out.own.alloc _) ?_; rw [HSZ.out])
        | (at_mapUpdate; refine wpList_mapUpdate_own _ rfl _ _ _ 123 rfl 9 33 law9 Tryz.underlying123 aggL M l.length (setR l) rfl (H2.out.own.alloc _) (by unfold maxLen; omega) _ _ _ rfl rfl HKEY.out _ [] (aggL_mk _ _ _ _ _ _ _ _ _ _ _ _ _ _ _ _ _) ?_; intro w3 hown3 hgrow3)
        | go_in)
      go_ret
      refine ⟨rfl, ⟨?_, ?_⟩, ?_⟩
      · rw [setR_snoc, List.length_append, List.length_singleton]
        exact hown3
      · rw [setR_snoc, Maps.size_put (H2.out.own.tidy law9), HHAS.out, HSZ.out, List.length_append, List.length_singleton]
        rfl
      · exact (grown_none (below_grown (HB2.out.trans ((Below.refl _ _).alloc HB2.out.size _)) (Nat.le_refl _))).andThen hgrow3 (fun j hj => .inr hj)

/-- What Distinct leaves behind. -/
def DistOut (w : World) (e : Ending) (w' : World) : Prop := ∃ KB AB MB M, e = .returned (.func (.func 79) #[] #[.pointer (some ⟨KB, 0, none⟩), .pointer (some ⟨AB, 0, none⟩), .pointer (some ⟨MB, 0, none⟩)]) ∧ DistIn w' KB AB MB M ∧ KMap w' M [] ∧
  w.heap.size ≤ M ∧ KB ≠ M ∧ AB ≠ M ∧ MB ≠ M ∧ Below w.heap.size w w'
set_option maxHeartbeats 1000000 in
theorem distinct_any (w : World) : Calls Tryz.prog 50 #[.int .i64 24, .func (.func 51) #[] #[]] w (DistOut w) := by
  have hmm := @run_makeMap Tryz.prog
  go_enter Tryz.func50, Tryz.ntmps50
  go_wp2
  go_ret
  refine ⟨w.heap.size + 1, w.heap.size + 1 + 1 + 1, w.heap.size, w.heap.size + 1 + 1, rfl, ?_⟩
  have e1 := Box1.new w 3 (.int .i64 24)
  have b1 := (Below.refl w.heap.size w).alloc (Nat.le_refl _) (.cells #[.int .i64 24] 3)
  have s1 : (w.alloc (.cells #[.int .i64 24] 3)).heap.size = w.heap.size + 1 := by simp
  generalize w.alloc (.cells #[.int .i64 24] 3) = w1 at e1 b1 s1 ⊢
  have e2 := Box1.new w1 85 (.func (.func 51) #[] #[])
  have b2 := (Below.refl w1.heap.size w1).alloc (Nat.le_refl _) (.cells #[.func (.func 51) #[] #[]] 85)
  have s2 : (w1.alloc (.cells #[.func (.func 51) #[] #[]] 85)).heap.size = w.heap.size + 1 + 1 := by simp [s1]
  rw [s1] at e2
  generalize w1.alloc (.cells #[.func (.func 51) #[] #[]] 85) = w2 at e2 b2 s2 ⊢
  have e3 := KMap.made w2
  have b3 := (Below.refl w2.heap.size w2).alloc (Nat.le_refl _) (.map #[] 0)
  have s3 : (w2.alloc (.map #[] 0)).heap.size = w.heap.size + 1 + 1 + 1 := by simp [s2]
  rw [s2] at e3
  generalize w2.alloc (.map #[] 0) = w3 at e3 b3 s3 ⊢
  have e4 := Box1.new w3 123 (.map (some (w.heap.size + 1 + 1)))
  have b4 := (Below.refl w3.heap.size w3).alloc (Nat.le_refl _) (.cells #[.map (some (w.heap.size + 1 + 1))] 123)
  rw [s3] at e4
  generalize w3.alloc (.cells #[.map (some (w.heap.size + 1 + 1))] 123) = w4 at e4 b4 ⊢
  refine ⟨⟨(e2.next b3).next b4, e4, ((e1.next b2).next b3).next b4⟩, e3.below b4, by omega, by omega, by omega, by omega, ?_⟩
  exact b1.trans ((b2.mono (by omega)).trans ((b3.mono (by omega)).trans (b4.mono (by omega))))
end Go.Proofs.YtigdcgklpapfbaaGreatDoor.S10

set_option linter.unusedVariables false
namespace Go.Proofs.YtigdcgklpapfbaaGreatDoor.S10
open Go Go.Proofs Go.RowKit Go.Lib Go.Proofs.YtigdcgklpapfbaaGreatDoor

set_option maxHeartbeats 4000000 in
set_option maxRecDepth 100000 in
theorem rframe_any (d s b m n : Int) (w : World) : Calls Tryz.prog 46 #[.agg #[.int .i64 d, .int .i64 s, .int .i64 b, .int .i64 m], .int .i64 n] w (Says (.bool (frameB d s b m n)) w) := by
  have cV := fun w => gvalid_any d s b m w
  unfold Says at cV ⊢
  have hF : frameB d s b m n = (gridB d s b m && decide (1 ≤ n) && decide (n ≤ 20)) := by
    unfold frameB
    rw [Bool.eq_iff_iff]
    simp
    constructor
    · rintro ⟨h1, h2, h3⟩; exact ⟨⟨h1, h2⟩, h3⟩
    · rintro ⟨⟨h1, h2⟩, h3⟩; exact ⟨h1, h2, h3⟩
  rw [hF]
  have hk := K1.first w d s b m 24
  have HK := hid hk
  clear hk hF
  cases hg : gridB d s b m with
  | false =>
    rw [hg, if_neg (by simp)] at cV
    clear hg
    go_enter Tryz.func46, Tryz.ntmps46
    go_wp2_with fail
    refine (cV _).mono ?_
    rintro e w1 ⟨rfl, hb⟩
    have hk := HK.out.next hb
    clear hb HK
    go_wp2
    go_ret
    exact ⟨rfl, hk.b⟩
  | true =>
    rw [hg, if_pos rfl] at cV
    clear hg
    by_cases h1 : 1 ≤ n
    · have h1d : decide (1 ≤ n) = true := decide_eq_true h1
      by_cases h2 : n ≤ 20
      · have h2d : decide (n ≤ 20) = true := decide_eq_true h2
        rw [h1d, h2d]
        go_enter Tryz.func46, Tryz.ntmps46
        go_wp2_with fail
        refine (cV _).mono ?_
        rintro e w1 ⟨rfl, hb⟩
        have hk := HK.out.next hb
        clear hb HK
        go_wp2
        go_ret
        exact ⟨rfl, hk.b⟩
      · have h2d : decide (n ≤ 20) = false := decide_eq_false h2
        rw [h1d, h2d]
        go_enter Tryz.func46, Tryz.ntmps46
        go_wp2_with fail
        refine (cV _).mono ?_
        rintro e w1 ⟨rfl, hb⟩
        have hk := HK.out.next hb
        clear hb HK
        go_wp2
        go_ret
        exact ⟨rfl, hk.b⟩
    · have h1d : decide (1 ≤ n) = false := decide_eq_false h1
      rw [h1d]
      go_enter Tryz.func46, Tryz.ntmps46
      go_wp2_with fail
      refine (cV _).mono ?_
      rintro e w1 ⟨rfl, hb⟩
      have hk := HK.out.next hb
      clear hb HK
      go_wp2
      go_ret
      exact ⟨by simp, hk.b⟩
end Go.Proofs.YtigdcgklpapfbaaGreatDoor.S10

