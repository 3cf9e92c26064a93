/-
  Reading a field that is a code, or a list of codes in any order. Conditions: the variables hold what their text lays; the text is below 2^32 bytes.
  Reading a number of at most four digits, zeros in front among them: ReadPadded of numerals. Condition: the library's variable holds an error.
  What holds while a list is read part by part (ReadParts of package entries), at whatever element. Conditions: as stated.
  Reading sets of weeks, part by part: ReadParts at ints. Conditions: the text is below 2^32 bytes; what the closure does with a part, in every world that the call passes through.
-/
import Derived.Test.YtigdcgklpapfbaaGreatDoorVA01
import Derived.Test.YtigdcgklpapfbaaGreatDoorVA02
import Derived.Test.YtigdcgklpapfbaaGreatDoorVA03
import Derived.Test.YtigdcgklpapfbaaGreatDoorVA04
import Derived.Test.YtigdcgklpapfbaaGreatDoorVA05
import Derived.Test.YtigdcgklpapfbaaGreatDoorVA06
import Derived.Test.YtigdcgklpapfbaaGreatDoorVA07
import Derived.Test.YtigdcgklpapfbaaGreatDoorVA08
import Derived.Test.YtigdcgklpapfbaaGreatDoorVA09
import Derived.Test.YtigdcgklpapfbaaGreatDoorVA10
import Derived.Test.YtigdcgklpapfbaaGreatDoorVA11
import Derived.Test.YtigdcgklpapfbaaGreatDoorVA12
import Derived.Test.YtigdcgklpapfbaaGreatDoorVA13
import Derived.Test.YtigdcgklpapfbaaGreatDoorVA14
import Derived.Test.YtigdcgklpapfbaaGreatDoorVA16
import Derived.Test.YtigdcgklpapfbaaGreatDoorProg
import Derived.WalkKit
import Derived.WalkSpells
import Derived.WalkLawsBesides
import Derived.Lib.Hide
import Derived.Deep.QuietTactic
import Derived.BigQuiet
import Derived.Laws.Rows
import Derived.OwnWalk
import Derived.Lib.BufferWrite
import Derived.Lib.UnsafeStr
import Derived.Laws.IdiomStrings
import Derived.Laws.BytesArg
import Derived.Laws.BytesString
import Derived.Laws.OwnMore
import Derived.Lib.IndexLaws
import Derived.Lib.ItoaNum
import Derived.Lib.Atoi
import Derived.Laws.BitsAllLaws
import Derived.Laws.BitsLemmas
import Derived.Deep.MidRow
import Derived.Shelf.Strings.Builder1
import Derived.Shelf.Strings.Builder2
import Derived.Shelf.Strings.OnBuilder
import Derived.Shelf.Strings.Trim
import Derived.Shelf.Small.Bits
import Derived.Shelf.Small.Strs
import Derived.Shelf.Small.Wraps
import Derived.Shelf.Strings.BuilderF
import Derived.Shelf.Strings.BuilderK
import Derived.Shelf.Strings.Builder2Cap
import Derived.Shelf.Strconv.Atoi
import Derived.Shelf.Strconv.Itoa0
import Derived.Shelf.Strconv.Itoa1
import Derived.Shelf.LaysM
import Derived.Shelf.Strconv.Itoa2
import Derived.Shelf.Strconv.Itoa3
import Derived.Shelf.Strconv.AtoiErrFast
import Derived.Shelf.Strconv.ParseIntEmpty
import Derived.Shelf.Strconv.AtoiFail
import Derived.Shelf.Strconv.Clone
import Derived.Shelf.Strconv.SyntaxError
import Derived.Shelf.LaysC
import Derived.Shelf.Strconv.ToError
import Derived.Shelf.Strconv.AtoiErr
import Derived.Shelf.Strings.Search1
import Derived.Shelf.Strings.Search2
import Derived.Shelf.Strings.Search3
import Derived.Shelf.Strings.Cut
import Derived.Shelf.Strings.Shaped
import Derived.Shelf.Strings.Prefix
import Derived.Shelf.Strings.Runes
import Derived.Shelf.Strings.AsciiSet
import Derived.Shelf.Bits.Mul64
import Derived.Shelf.Strings.Repeat
import Derived.Shelf.Unicode.DecodeSlow
import Derived.Shelf.Strings.BuilderCap
import Derived.Shelf.Slices.Turned
import Derived.Ground.SlgfProg
import Derived.Shelf.SlicesE.IndexFunc
import Derived.Lib.AtoiErrMem
import Derived.Handy
import Derived.RangeFuncNested
import Derived.RangeFuncBound
import Derived.RangeFuncCalls
import Derived.RangeFuncLeaves
import Derived.Shelf.Abstract
import Derived.Shelf.RegionOpen
import Derived.OwnWalkIn
import Derived.Lib.Bytealg
import Derived.Lib.SlTrimSet
import Derived.Shelf.Strings.SlTrimAscii
import Derived.Laws.ResultCell
import Derived.RegionTactic
import Derived.Lib.Repeat
import Derived.Deep.RegionHeld3
import Derived.Lib.SlicesS
import Derived.TacticsInMore
import Derived.LoopNIn
import Derived.LoopIn
import Derived.Deep.DeepCutAuto
import Derived.Lib.Join
import Derived.Laws.Concat
import Derived.Maps.OwnSet
import Derived.Maps.Range
import Derived.Sort.EncStr
import Derived.Deep.RegionLaw
import Derived.Shelf.SlGeneric
import Derived.Shelf.Sort.Plain
import Derived.Shelf.Slices.In.SortNone
import Derived.Ground.NamesProg
import Derived.Sort.OwnSorted
import Derived.RangeFuncBox
set_option linter.unusedVariables false
namespace Go.Proofs.YtigdcgklpapfbaaGreatDoor.S10
open Go Go.Proofs Go.RowKit Go.Lib Go.Proofs.YtigdcgklpapfbaaGreatDoor

set_option maxHeartbeats 2000000 in
theorem ccode_any (s : ByteArray) (w : World) : Calls Tryz.prog 84 #[.string s] w fun e w' => e = .returned (.tuple #[.string (if S3.validC (lst s) = true then s else ⟨#[]⟩), .int .i64 (if S3.validC (lst s) = true then 0 else 10)]) ∧ w' = w := by
  have cV := fun w => S3.valid_any s w
  cases hv : S3.validC (lst s) with
  | false =>
    rw [show s.data.toList = lst s from rfl, hv] at cV
    rw [if_neg (by simp), if_neg (by simp)]
    clear hv
    go_enter Tryz.func84, Tryz.ntmps84
    go_wp2_with fail
    refine (cV _).mono ?_
    rintro e w' ⟨rfl, rfl⟩
    go_wp2
    go_ret2
    exact ⟨rfl, rfl⟩
  | true =>
    rw [show s.data.toList = lst s from rfl, hv] at cV
    rw [if_pos rfl, if_pos rfl]
    clear hv
    go_enter Tryz.func84, Tryz.ntmps84
    go_wp2_with fail
    refine (cV _).mono ?_
    rintro e w' ⟨rfl, rfl⟩
    go_wp2
    go_ret2
    exact ⟨rfl, rfl⟩

/-- Sort of a slice of strings of the call's own. -/
theorem sortRow (v : Value) (l : List Str) (B : Nat) (w : World) (h : S3.StrRow w B v l) (hB : B ≤ w.heap.size) (hl : l.length ≤ 1000) :
    Calls Tryz.prog 123 #[v] w fun e w' => e = .returned (.tuple #[]) ∧ S3.StrRow w' B v (sortS l) ∧ Below B w w' := by
  have h' := h
  rcases h.2 with ⟨hv, h0⟩ | ⟨g, cap, cur, hv, hg0, hg, h1, h2, h3, h4⟩
  · have hl : l = [] := List.eq_nil_of_length_eq_zero h0
    subst hl
    subst hv
    refine (Any.slices_Sort_string_none Tryz.lays190 none 0 w).mono ?_
    rintro e w' ⟨rfl, rfl⟩
    exact ⟨rfl, by rw [show sortS [] = [] by simp [sortS]]; exact h', Below.refl _ _⟩
  · subst hv
    have hlt := (Array.getElem?_eq_some_iff.1 hg).1
    have hH := holds_of_block (ss := l) hg (by have h5 := h4; rw [Nat.mul_one] at h5; exact h5)
    refine (Any.slices_Sort_string Tryz.lays190 g 0 cap l w hH hlt (by omega)).mono ?_
    rintro e w' ⟨rfl, n, os, rfl⟩
    refine ⟨rfl, ?_, (Below.refl _ w).grown (grownBy_sorted _) hB (fun k hk => by injection hk; omega)⟩
    have := ownsRow_sorted (n := n) (os := os) (ts := sortS l) (sortS_len l) hg0 hg h1 h2 h3
    unfold S3.StrRow
    rw [sortS_len]
    exact this

set_option maxHeartbeats 4000000 in
set_option maxRecDepth 100000 in
theorem creadCodes_any (s : ByteArray) (hs : s.size < 4294967281) (w : World) (hE : S3.Env w) : Calls Tryz.prog 88 #[.string s] w (S3.ListOut (featsM (lst s)) w) := by
  have cL := hid (S3.list_any s hs w hE)
  unfold S3.ListOut featsM
  have cL' := cL.out
  unfold S3.ListOut at cL'
  rw [show S3.lst s = lst s from rfl] at cL'
  obtain ⟨⟨l, e0⟩, hR⟩ : ∃ R, S3.listM (lst s) = R := ⟨_, rfl⟩
  rw [hR] at cL' ⊢
  dsimp only at cL' ⊢
  have CL := hid cL'
  clear cL cL' hR hE
  by_cases h0 : e0 = 0
  · subst h0
    rw [if_neg (by simp)]
    by_cases h8 : 8 < l.length
    · rw [if_pos h8]
      have h8z : (8 : Int) < (l.length : Int) := by omega
      go_enter Tryz.func88, Tryz.ntmps88
      go_wp2_with fail
      refine CL.out.mono ?_
      rintro e w1 ⟨⟨v, rfl, hrow⟩, hb⟩
      obtain ⟨A, c, rfl, _⟩ := hrow.strsIn
      have HB := hid hb
      clear hb hrow
      go_wp2
      go_ret2
      exact ⟨⟨_, rfl, World.ownsRow_nil _ _ _ _⟩, HB.out⟩
    · rw [if_neg h8]
      have h8z : ¬ (8 : Int) < (l.length : Int) := by omega
      go_enter Tryz.func88, Tryz.ntmps88
      go_wp2_with fail
      refine CL.out.mono ?_
      rintro e w1 ⟨⟨v, rfl, hrow⟩, hb⟩
      have cS := sortRow v l w.heap.size w1 hrow hb.size (by omega)
      obtain ⟨A, c, rfl, _⟩ := hrow.strsIn
      have CS := hid cS
      have HB := hid hb
      clear hb hrow cS
      go_wp2_with fail
      refine CS.out.mono ?_
      rintro e w2 ⟨rfl, hrow2, hb2⟩
      have HR2 := hid hrow2
      have HB2 := hid (HB.out.trans hb2)
      clear hrow2 hb2
      go_wp2
      go_ret2
      exact ⟨⟨_, rfl, HR2.out⟩, HB2.out⟩
  · rw [if_pos h0]
    have e1 : (e0 != 0) = true := by simpa using h0
    have e2 : (e0 == 0) = false := by simpa using h0
    go_enter Tryz.func88, Tryz.ntmps88
    go_wp2_with fail
    refine CL.out.mono ?_
    rintro e w1 ⟨⟨v, rfl, hrow⟩, hb⟩
    have HB := hid hb
    clear hb hrow
    go_wp2
    go_ret2
    exact ⟨⟨_, rfl, World.ownsRow_nil _ _ _ _⟩, HB.out⟩
end Go.Proofs.YtigdcgklpapfbaaGreatDoor.S10

set_option linter.unusedVariables false
namespace Go.Proofs.YtigdcgklpapfbaaGreatDoor.S10
open Go Go.Proofs Go.RowKit Go.Lib Go.Proofs.YtigdcgklpapfbaaGreatDoor

theorem numF_rng (s : Str) : 0 ≤ (numF s).1 ∧ (numF s).1 < 10000 := by
  unfold numF
  split
  · rename_i h
    have h1 := S3.numN_lt s (List.all_eq_true.1 h.2.2)
    have h2 : 10 ^ s.length ≤ 10 ^ 4 := Nat.pow_le_pow_right (by omega) h.2.1
    have h3 : (10 : Nat) ^ 4 = 10000 := by decide
    refine ⟨by simp only; omega, ?_⟩
    simp only
    omega
  · simp
theorem decFrom_notF : ∀ (l : Str) (acc : Nat), l.all S3.dg = false → Lib.decFrom acc l = none
  | [], acc, h => by simp at h
  | c :: r, acc, h => by
    rw [Lib.decFrom]
    by_cases hc : S3.dg c = true
    · have h3 : 48 ≤ c.toNat ∧ c.toNat ≤ 57 := by simpa [S3.dg] using hc
      rw [show Lib.digitVal c = some (c.toNat - 48) by simp [Lib.digitVal, h3]]
      exact decFrom_notF r _ (by rw [List.all_cons, hc, Bool.true_and] at h; exact h)
    · have h3 : ¬ (48 ≤ c.toNat ∧ c.toNat ≤ 57) := by simpa [S3.dg] using hc
      rw [show Lib.digitVal c = none by simp [Lib.digitVal]; omega]
theorem atoi_numF (s : Str) (a : UInt8) (r : Str) (hs : s = a :: r) (hl : s.length ≤ 4) (h : 48 ≤ a.toNat) : Lib.atoi s = if (numF s).2 = false then none else some (numF s).1 := by
  subst hs
  by_cases hd : (a :: r).all S3.dg = true
  · have hN : numF (a :: r) = (((S3.numN (a :: r) : Nat) : Int), true) := if_pos ⟨by simp, hl, hd⟩
    rw [hN, if_neg (by simp)]
    exact S3.atoi_num _ (by simp) (List.all_eq_true.1 hd)
  · have hN : numF (a :: r) = (0, false) := if_neg (fun k => hd k.2.2)
    rw [hN, if_pos rfl]
    have e1 : (a == 45) = false := by
      rw [beq_eq_false_iff_ne]
      rintro rfl
      simp at h
    have e2 : (a == 43) = false := by
      rw [beq_eq_false_iff_ne]
      rintro rfl
      simp at h
    unfold Lib.atoi
    dsimp only
    rw [e1, e2, if_neg (by simp), if_neg (by simp)]
    unfold Lib.decNat
    rw [if_neg (by simp), decFrom_notF _ _ (by simpa using hd)]
    rfl
theorem numF_low {a : UInt8} {r : Str} (h : a.toNat < 48) : numF (a :: r) = (0, false) := by
  refine if_neg (fun k => ?_)
  have h1 : S3.dg a = true := (List.all_eq_true.1 k.2.2) a (by simp)
  have h3 : 48 ≤ a.toNat ∧ a.toNat ≤ 57 := by simpa [S3.dg] using h1
  omega
theorem numF_long {s : Str} (h : 4 < s.length) : numF s = (0, false) := if_neg (fun k => by omega)
theorem lst_nilF {s : ByteArray} (h : ¬ 0 < s.size) : lst s = [] := List.eq_nil_of_length_eq_zero (by rw [← Lib.size_eq]; omega)
set_option maxHeartbeats 2000000 in
/-- ReadPadded of numerals at four digits. -/
theorem padded4_any (s : ByteArray) (w : World) (hE : Env w) : Calls Tryz.prog 121 #[.string s, .int .i64 4] w fun e w' => e = .returned (.tuple #[.int .i64 (numF (lst s)).1, .bool (numF (lst s)).2]) ∧ Below w.heap.size w w' := by
  obtain ⟨⟨N, B⟩, hN⟩ : ∃ N, numF (lst s) = N := ⟨_, rfl⟩
  rw [hN]
  dsimp only
  by_cases h0 : 0 < s.size
  · obtain ⟨x1, x2, x3, x4⟩ := S3.str_no h0
    obtain ⟨r, hr⟩ := lst_cons h0
    by_cases h2 : s.size ≤ 4
    · have h2' : (s.size : Int) ≤ 4 := by omega
      have h2'' : ¬ (4 : Int) < s.size := by omega
      obtain ⟨a, ha⟩ : ∃ a, s[0]'h0 = a := ⟨_, rfl⟩
      rw [ha] at hr
      by_cases h3 : a.toNat < 48
      · have h3' : (a.toNat : Int) < 48 := by omega
        have : ((0 : Int), false) = (N, B) := by rw [← hN, hr, numF_low h3]
        obtain ⟨rfl, rfl⟩ := Prod.mk.inj this
        clear hN hr hE this
        go_enter Tryz.func121, Tryz.ntmps121
        go_wp2
        go_ret2
        exact ⟨rfl, Below.refl _ _⟩
      · have h3' : ¬ (a.toNat : Int) < 48 := by omega
        have hat := atoi_numF (lst s) a r hr (by rw [← Lib.size_eq]; exact h2) (by omega)
        have h00 : B = false → N = 0 := by
          intro hb
          subst hb
          unfold numF at hN
          split at hN
          · simp at hN
          · exact (Prod.mk.inj hN).1.symm
        have hrng := numF_rng (lst s)
        rw [hN] at hat hrng
        obtain ⟨ev, hev, hev2⟩ := hE.ev
        cases B with
        | false =>
          obtain rfl := h00 rfl
          rw [if_pos rfl] at hat
          have cA := hid (Tryz.strconv_Atoi_err s (by omega) hat ev w hev hev2)
          clear hN hr hE hat hev hev2 h00 hrng
          go_enter Tryz.func121, Tryz.ntmps121
          go_wp2_with fail
          refine cA.out.mono ?_
          rintro e w' ⟨M, rfl, _, _, hb⟩
          have HB := hid hb
          clear hb
          go_wp2
          go_ret2
          exact ⟨rfl, HB.out⟩
        | true =>
          rw [if_neg (by simp)] at hat
          have cA := hid (Tryz.strconv_Atoi s N (by omega) hat w)
          clear hN hr hE hat hev hev2 h00 hrng
          go_enter Tryz.func121, Tryz.ntmps121
          go_wp2_with fail
          refine cA.out.mono ?_
          rintro e w' ⟨rfl, t, hw⟩
          have HB : Hid (Below w.heap.size w w') := hid (by rw [hw]; exact Lib.bytesWorld_below _ _ _)
          clear hw
          go_wp2
          go_ret2
          exact ⟨rfl, HB.out⟩
    · have h2' : ¬ (s.size : Int) ≤ 4 := by omega
      have h2'' : (4 : Int) < s.size := by omega
      have : ((0 : Int), false) = (N, B) := by rw [← hN, numF_long (by rw [← Lib.size_eq]; omega)]
      obtain ⟨rfl, rfl⟩ := Prod.mk.inj this
      clear hN hr hE this
      go_enter Tryz.func121, Tryz.ntmps121
      go_wp2
      go_ret2
      exact ⟨rfl, Below.refl _ _⟩
  · obtain ⟨x1, x2, x3, x4⟩ := S3.str_yes h0
    have : ((0 : Int), false) = (N, B) := by rw [← hN, lst_nilF h0]; rfl
    obtain ⟨rfl, rfl⟩ := Prod.mk.inj this
    clear hN hE this
    go_enter Tryz.func121, Tryz.ntmps121
    go_wp2
    go_ret2
    exact ⟨rfl, Below.refl _ _⟩

set_option maxHeartbeats 2000000 in
theorem readSeats_any (s : ByteArray) (w : World) (hE : Env w) : Calls Tryz.prog 87 #[.string s] w fun e w' => e = .returned (.tuple #[.int .i64 (seatsF (lst s)).1, .int .i64 (seatsF (lst s)).2]) ∧ Below w.heap.size w w' := by
  have cR := padded4_any s w hE
  unfold seatsF
  obtain ⟨⟨N, B⟩, hN⟩ : ∃ N, numF (lst s) = N := ⟨_, rfl⟩
  rw [hN] at cR ⊢
  dsimp only at cR ⊢
  have CR := hid cR
  clear cR hE hN
  cases B with
  | false =>
    rw [if_pos rfl]
    go_enter Tryz.func87, Tryz.ntmps87
    go_wp2_with fail
    refine CR.out.mono ?_
    rintro e w' ⟨rfl, hb⟩
    have HB := hid hb
    clear hb
    go_wp2
    go_ret2
    exact ⟨rfl, HB.out⟩
  | true =>
    rw [if_neg (by simp)]
    go_enter Tryz.func87, Tryz.ntmps87
    go_wp2_with fail
    refine CR.out.mono ?_
    rintro e w' ⟨rfl, hb⟩
    have HB := hid hb
    clear hb
    go_wp2
    go_ret2
    exact ⟨rfl, HB.out⟩
end Go.Proofs.YtigdcgklpapfbaaGreatDoor.S10

set_option linter.unusedVariables false
namespace Go.Proofs.YtigdcgklpapfbaaGreatDoor.S10
open Go Go.Proofs Go.RowKit Go.Lib Go.Proofs.YtigdcgklpapfbaaGreatDoor

section
variable {α : Type} (f : Str → α × Int) (vals : List α → List Value) (TS TE z TF : Nat) (zc : UInt8) (fv : Value)
/-- Between two rounds. -/
structure PInv (N : Nat) (w : World) (st : St) (W : World) : Prop where
  below : Below N w W
  size : N + 7 ≤ W.heap.size
  fb : Boxed W N TF fv
  r1 : Boxed W (N + 1) TS (.slice none 0 0)
  r2 : Boxed W (N + 2) 26 (.int .i64 0)
  acc : ∃ v, Boxed W (N + 3) TS v ∧ W.ownsRow (N + 7) TE z v (partsGo f st.1 []).1.length (vals (partsGo f st.1 []).1)
  v1 : Boxed W (N + 4) 9 (.string st.2)
  v2 : Boxed W (N + 5) 9 (.string ⟨#[zc]⟩)
  v3 : Boxed W (N + 6) 3 (.int .i64 0)
  ok : (partsGo f st.1 []).2 = 0
/-- A round has returned. -/
structure PErr (N : Nat) (w : World) (x : Str) (W : World) : Prop where
  below : Below N w W
  out : ∃ e : Int, (partsGo f (splitC zc x) []).2 = e ∧ e ≠ 0 ∧ Boxed W (N + 1) TS (.slice none 0 0) ∧ Boxed W (N + 2) 26 (.int .i64 e)
end
section
variable {α : Type} {f : Str → α × Int} {vals : List α → List Value} {TS TE z TF : Nat} {zc : UInt8} {fv : Value} {N : Nat} {w : World}
theorem row_kindP {w : World} {B e z k : Nat} {v : Value} {xs : List Value} (h : w.ownsRow B e z v k xs) (g : Nat) (hg : v.ownBlock = some g) : ∃ c, w.heap[g]? = some (.cells c e (0, 0)) := by
  rcases h.2 with ⟨rfl, _⟩ | ⟨g', cap, cur, rfl, _, hh, _⟩
  · simp [Value.ownBlock] at hg
  · simp only [Value.ownBlock, Option.some.injEq] at hg
    subst hg
    exact ⟨cur, hh⟩
theorem PInv.kept {st : St} {W W' : World} {row : Option Nat} (h : PInv f vals TS TE z TF zc fv N w st W) (hN : N ≤ w.heap.size) (hg : W.grownBy W' row) (hr : ∀ r, row = some r → N + 7 ≤ r) (hrow : ∀ v, Boxed W (N + 3) TS v → W.ownsRow (N + 7) TE z v (partsGo f st.1 []).1.length (vals (partsGo f st.1 []).1) → v.ownBlock = none ∨ v.ownBlock ≠ row) : PInv f vals TS TE z TF zc fv N w st W' := by
  have hne : ∀ B, B < N + 7 → some B ≠ row := fun B hB e => by have := hr B e.symm; omega
  obtain ⟨v, hv, hw⟩ := h.acc
  have hs := h.below.size
  have hz := h.size
  exact ⟨h.below.grown hg (by omega) (fun k e => by have := hr k e; omega), Nat.le_trans h.size hg.size, h.fb.kept hg (hne _ (by omega)), h.r1.kept hg (hne _ (by omega)), h.r2.kept hg (hne _ (by omega)),
    ⟨v, hv.kept hg (hne _ (by omega)), World.ownsRow.kept hw hg (hrow v hv hw)⟩, h.v1.kept hg (hne _ (by omega)), h.v2.kept hg (hne _ (by omega)), h.v3.kept hg (hne _ (by omega)), h.ok⟩
theorem PInv.own {B : Nat} (hN : N ≤ w.heap.size) (hB : N + 7 ≤ B) : OwnFrom B (PInv f vals TS TE z TF zc fv N w) := by
  intro st W W' row h hg hr
  refine h.kept hN hg (fun r e => by have := (hr r e).1; omega) (fun v hv hw => ?_)
  rcases hw.2 with ⟨rfl, _⟩ | ⟨g, cap, cur, rfl, _, hgb, _⟩
  · exact .inl rfl
  · refine .inr fun e' => ?_
    obtain ⟨_, o, ho, hc⟩ := hr g (by simpa [Value.ownBlock] using e'.symm)
    rw [hgb] at ho; cases ho; cases hc
theorem PErr.own {B : Nat} {x : Str} (hN : N ≤ w.heap.size) (hB : N + 7 ≤ B) : OwnFrom B (fun (_ : Unit) W => PErr f TS zc N w x W) := by
  rintro _ W W' row ⟨hb, e, he, h0, h1, h2⟩ hg hr
  have hne : ∀ B, B < N + 7 → some B ≠ row := fun B' hB' e => by have := (hr B' e.symm).1; omega
  have hs := hb.size
  exact ⟨hb.grown hg (by omega) (fun k e => by have := (hr k e).1; omega), e, he, h0, h1.kept hg (hne _ (by omega)), h2.kept hg (hne _ (by omega))⟩
theorem PInv.turn {st : St} {W : World} (h : PInv f vals TS TE z TF zc fv N w st W) (hN : N ≤ w.heap.size) (r : ByteArray) : PInv f vals TS TE z TF zc fv N w (st.1, r) (W.setCell ⟨N + 4, 0, none⟩ (.string r)) := by
  have hg := grownBy_setCell' W (N + 4) (.string r)
  have hne : ∀ B, B ≠ N + 4 → some B ≠ some (N + 4) := fun B hB e => hB (by injection e)
  obtain ⟨v, hv, hw⟩ := h.acc
  have hs := h.below.size
  have hz := h.size
  refine ⟨h.below.grown hg (by omega) (fun k e => by injection e; omega), Nat.le_trans h.size hg.size, h.fb.kept hg (hne _ (by omega)), h.r1.kept hg (hne _ (by omega)), h.r2.kept hg (hne _ (by omega)),
    ⟨v, hv.kept hg (hne _ (by omega)), World.ownsRow.kept hw hg ?_⟩, h.v1.set _, h.v2.kept hg (hne _ (by omega)), h.v3.kept hg (hne _ (by omega)), h.ok⟩
  refine .inr fun e => ?_
  have := World.ownsRow.lt hw _ e
  omega
theorem PInv.vars {st : St} {W : World} (h : PInv f vals TS TE z TF zc fv N w st W) : SplitVars zc (N + 4) st.2 W := ⟨h.v1.cell, h.v1.frozen, h.v2.cell, h.v3.cell⟩
/-- A round has gone on. -/
theorem PInv.step {pre : List Str} {r : ByteArray} {W W2 w3 : World} {v v' : Value} {n n' : Nat} {L L' : List Value} {LL : List α} {x : Str} (h : PInv f vals TS TE z TF zc fv N w (pre, r) W) (hN : N ≤ w.heap.size) (hb : Below W.heap.size W W2) (hv : Boxed W (N + 3) TS v)
    (hrow2 : W2.ownsRow (N + 7) TE z v n L) (hg : W2.grownBy w3 v.ownBlock) (hown : w3.ownsRow (N + 7) TE z v' n' L') (hx : partsGo f (pre ++ [x]) [] = (LL, 0)) (hn : n' = LL.length) (hL : L' = vals LL) (B0 : Nat) :
    PInv f vals TS TE z TF zc fv N w (pre ++ [x], r) (w3.setCell ⟨N + 3, 0, none⟩ v') ∧ KeepsFrom B0 W (w3.setCell ⟨N + 3, 0, none⟩ v') := by
  have hs := h.below.size
  have hlt := World.ownsRow.lt hrow2
  have hlt' := World.ownsRow.lt hown
  have hne : ∀ B, B < N + 7 → some B ≠ v.ownBlock := fun B hB e => by have := hlt B e.symm; omega
  have hg2 := grownBy_setCell' w3 (N + 3) v'
  have hne2 : ∀ B, B ≠ N + 3 → some B ≠ some (N + 3) := fun B hB e => hB (by injection e)
  have up : ∀ {B : Nat} {t : TypeId} {u : Value}, Boxed W B t u → B < N + 7 → B ≠ N + 3 → Boxed (w3.setCell ⟨N + 3, 0, none⟩ v') B t u := fun hu h6 h2 => ((S3.Boxed.under hu hb).kept hg (hne _ h6)).kept hg2 (hne2 _ h2)
  have hv3 : Boxed w3 (N + 3) TS v := (S3.Boxed.under hv hb).kept hg (hne _ (by omega))
  have hsz := h.size
  have z2 := hb.size
  have z3 := hg.size
  have hb3 : Below N w (w3.setCell ⟨N + 3, 0, none⟩ v') := ((h.below.trans (hb.mono (by omega))).grown hg (by omega) (fun k hk => by have := hlt k hk; omega)).grown hg2 (by omega) (fun k e => by injection e; omega)
  subst hn hL
  refine ⟨⟨hb3, ?_, up h.fb (by omega) (by omega), up h.r1 (by omega) (by omega), up h.r2 (by omega) (by omega), ⟨v', hv3.set v', ?_⟩, up h.v1 (by omega) (by omega), up h.v2 (by omega) (by omega), up h.v3 (by omega) (by omega), by rw [hx]⟩, ?_⟩
  · have := hg2.size; omega
  · rw [hx]
    exact World.ownsRow.kept hown hg2 (.inr fun e => by have := hlt' _ e; omega)
  · refine (((S3.keeps_below hb).trans (KeepsOthers.of_grownBy hg fun j o ej hj => ?_)).trans (KeepsOthers.setCell _ _ _)).from _
    obtain ⟨c, hc⟩ := row_kindP hrow2 j ej
    rw [hc] at hj
    cases hj
    rfl
end
/-- Both results stored, the mark taken. -/
theorem parts_end {N D TS TE z : Nat} {W : World} {u0 u1 v e : Value} (h1 : Boxed W (N + 1) TS u0) (h2 : Boxed W (N + 2) 26 u1) (hD : N + 7 ≤ D) (hK : W.heap[D]? = some (.deferred (some []))) :
    ((W.setCell ⟨N + 1, 0, none⟩ v).setCell ⟨N + 2, 0, none⟩ e).heap[D]? = some (.deferred (some [])) ∧
    Boxed (((W.setCell ⟨N + 1, 0, none⟩ v).setCell ⟨N + 2, 0, none⟩ e).putObj D (.deferred none)) (N + 1) TS v ∧ Boxed (((W.setCell ⟨N + 1, 0, none⟩ v).setCell ⟨N + 2, 0, none⟩ e).putObj D (.deferred none)) (N + 2) 26 e ∧
    Below N W (((W.setCell ⟨N + 1, 0, none⟩ v).setCell ⟨N + 2, 0, none⟩ e).putObj D (.deferred none)) ∧
    (∀ u k xs, W.ownsRow (N + 7) TE z u k xs → (((W.setCell ⟨N + 1, 0, none⟩ v).setCell ⟨N + 2, 0, none⟩ e).putObj D (.deferred none)).ownsRow (N + 7) TE z u k xs) := by
  have hg1 := grownBy_setCell' W (N + 1) v
  have hg2 := grownBy_setCell' (W.setCell ⟨N + 1, 0, none⟩ v) (N + 2) e
  have hg3 := grownBy_putObj' ((W.setCell ⟨N + 1, 0, none⟩ v).setCell ⟨N + 2, 0, none⟩ e) D (.deferred none)
  have hne : ∀ a b : Nat, a ≠ b → some a ≠ some b := fun a b h e => h (by injection e)
  have hlt := h2.lt
  have k0 : ((W.setCell ⟨N + 1, 0, none⟩ v).setCell ⟨N + 2, 0, none⟩ e).heap[D]? = some (.deferred (some [])) := (KeepsOthers.setCell _ _ _).same D _ ((KeepsOthers.setCell W _ _).same D _ hK rfl) rfl
  refine ⟨k0, ((h1.set v).kept hg2 (hne _ _ (by omega))).kept hg3 (hne _ _ (by omega)), ((h2.kept hg1 (hne _ _ (by omega))).set e).kept hg3 (hne _ _ (by omega)), ?_, ?_⟩
  · exact (((Below.refl N W).grown hg1 (by omega) (fun k e => by injection e; omega)).grown hg2 (by have := hg1.size; omega) (fun k e => by injection e; omega)).grown hg3 (by have := hg1.size; have := hg2.size; omega) (fun k e => by injection e; omega)
  · intro u k xs h
    have := h.lt
    exact ownsRow_putObj (World.ownsRow.kept (World.ownsRow.kept h hg1 (.inr fun e => by have := this _ e; omega)) hg2 (.inr fun e => by have := this _ e; omega)) _ k0 rfl
theorem parts_low {N D TS : Nat} {W : World} {u0 e : Value} (h1 : Boxed W (N + 1) TS u0) (h2 : Boxed W (N + 2) 26 e) (hD : N + 7 ≤ D) : Boxed (W.putObj D (.deferred none)) (N + 1) TS u0 ∧ Boxed (W.putObj D (.deferred none)) (N + 2) 26 e ∧ ∀ w, Below N w W → N ≤ w.heap.size → Below N w (W.putObj D (.deferred none)) := by
  have hg3 := grownBy_putObj' W D (.deferred none)
  have hne : ∀ a b : Nat, a ≠ b → some a ≠ some b := fun a b h e => h (by injection e)
  exact ⟨h1.kept hg3 (hne _ _ (by omega)), h2.kept hg3 (hne _ _ (by omega)), fun w hb hN => hb.grown hg3 (by have := hb.size; omega) (fun k e => by injection e; omega)⟩
set_option maxHeartbeats 1000000 in
/-- SplitSeq at one sign. -/
theorem splitSeq_any (z : UInt8) (s : ByteArray) (w : World) : Calls Tryz.prog 156 #[.string s, .string ⟨#[z]⟩] w fun e w' =>
    e = .returned (.func (.func 229) #[] #[.pointer (some ⟨w.heap.size + 1, 0, none⟩), .pointer (some ⟨w.heap.size, 0, none⟩), .pointer (some ⟨w.heap.size + 2, 0, none⟩)]) ∧ w' = ((w.alloc (.cells #[.string s] 9)).alloc (.cells #[.string ⟨#[z]⟩] 9)).alloc (.cells #[.int .i64 0] 3) := by
  have c56 : Calls Tryz.prog 186 #[.string s, .string ⟨#[z]⟩, .int .i64 0] w fun e w' =>
      e = .returned (.func (.func 229) #[] #[.pointer (some ⟨w.heap.size + 1, 0, none⟩), .pointer (some ⟨w.heap.size, 0, none⟩), .pointer (some ⟨w.heap.size + 2, 0, none⟩)]) ∧
      w' = ((w.alloc (.cells #[.string s] 9)).alloc (.cells #[.string ⟨#[z]⟩] 9)).alloc (.cells #[.int .i64 0] 3) := by
    go_enter Tryz.func186, Tryz.ntmps186
    go_wp2
    go_ret
    exact ⟨rfl, rfl⟩
  go_enter Tryz.func156, Tryz.ntmps156
  go_wp2_with fail
  refine c56.mono ?_
  rintro e w' ⟨rfl, rfl⟩
  go_wp2
  go_ret
  exact ⟨rfl, rfl⟩
end Go.Proofs.YtigdcgklpapfbaaGreatDoor.S10

set_option linter.unusedVariables false
namespace Go.Proofs.YtigdcgklpapfbaaGreatDoor.S10
open Go Go.Proofs Go.RowKit Go.Lib Go.Proofs.YtigdcgklpapfbaaGreatDoor
attribute [local go_sem] Oper.semAt_some
theorem loadInts {w : World} {k : Nat} {x : Value} (h0 : w.cell? ⟨k, 0, none⟩ = some x) : (loadVar 29 ⟨k, 0, none⟩).run Tryz.prog w = .ok x w := by
  simp [loadVar, go_sem, h0]

set_option maxHeartbeats 8000000 in
set_option maxRecDepth 100000 in
/-- ReadParts at sets of weeks. -/
theorem readPartsI_any (n : Int) (K : Nat) (x : ByteArray) (hs : x.size < 4294967281) (w : World)
    (hF : ∀ (y : ByteArray) (W : World), y.size < 4294967281 → Below w.heap.size w W → Calls Tryz.prog 118 (#[.string y] ++ #[.pointer (some ⟨K, 0, none⟩)]) W fun e w' => (∃ r, r = (patM n) (lst y) ∧ e = .returned (.tuple #[.int .i64 r.1, .int .i64 r.2])) ∧ Below W.heap.size W w') :
    Calls Tryz.prog 120 #[.string x, .string ⟨#[47]⟩, .int .i64 8, (.func (.func 118) #[] #[.pointer (some ⟨K, 0, none⟩)])] w fun e w' => (∃ v, e = .returned (.tuple #[v, .int .i64 (partsM (patM n) 47 8 (lst x)).2]) ∧ w'.ownsRow w.heap.size 3 1 v (partsM (patM n) 47 8 (lst x)).1.length (intVals (partsM (patM n) 47 8 (lst x)).1)) ∧ Below w.heap.size w w' := by
  have eg : ∀ args w, (callFunc 118 args).run Tryz.prog w = .ok (.enter 118 args) w := enters_of Tryz.func118 (by kernel_rfl) rfl
  obtain ⟨i9, hi9, hz9, hsi9, hby9⟩ := info_parts infoInt
  refine (callsIn_wide (n := 9)).1 ?_
  refine callsIn_of_wp_marks Tryz.func120 rfl trivial ?_ rfl
  simp only [Tryz.ntmps120, List.size_toArray, List.length_cons, List.length_nil, Nat.reduceAdd, Nat.reduceSub, Array.replicate_succ, Array.replicate_zero, List.push_toArray, List.append_toArray, List.nil_append, List.cons_append]
  have HF := hid hF
  clear hF
  gi_wp2_with fail
  refine ⟨trivial, ?_⟩
  refine (callsIn_wide.2 (splitSeq_any 47 x _)).mono ?_
  rintro e w' ⟨rfl, rfl⟩
  gi_wp2
  obtain ⟨W0, hW0⟩ : ∃ W0, (((((((w.alloc (Obj.cells #[(.func (.func 118) #[] #[.pointer (some ⟨K, 0, none⟩)])] 133)).alloc (Obj.cells #[Value.slice none 0 0] 29)).alloc (Obj.cells #[Value.int IntKind.i64 0] 26)).alloc (Obj.cells #[Value.slice none 0 0] 29)).alloc (Obj.cells #[Value.string x] 9)).alloc (Obj.cells #[Value.string { data := #[47] }] 9)).alloc (Obj.cells #[Value.int IntKind.i64 0] 3)) = W0 := ⟨_, rfl⟩
  rw [hW0]
  have hI0 : PInv (patM n) intVals 29 3 1 133 47 (.func (.func 118) #[] #[.pointer (some ⟨K, 0, none⟩)]) w.heap.size w ([], x) W0 := by
    rw [← hW0]
    refine ⟨?_, by simp, ?_, ?_, ?_, ⟨.slice none 0 0, ?_, World.ownsRow_nil _ _ _ _⟩, ?_, ?_, ?_, rfl⟩
    · exact (((((((Below.refl _ w).alloc (Nat.le_refl _) _).alloc (by simp) _).alloc (by simp; omega) _).alloc (by simp; omega) _).alloc (by simp; omega) _).alloc (by simp; omega) _).alloc (by simp; omega) _
    · exact ((((((S3.box_at (by simp) 133 _).alloc _).alloc _).alloc _).alloc _).alloc _).alloc _
    · exact (((((S3.box_at (by simp) 29 _).alloc _).alloc _).alloc _).alloc _).alloc _
    · exact ((((S3.box_at (by simp) 26 _).alloc _).alloc _).alloc _).alloc _
    · exact (((S3.box_at (by simp) 29 _).alloc _).alloc _).alloc _
    · exact ((S3.box_at (by simp) 9 _).alloc _).alloc _
    · exact (S3.box_at (by simp) 9 _).alloc _
    · exact S3.box_at (by simp) 3 _
  have hz0 : w.heap.size + 7 ≤ W0.heap.size := hI0.size
  clear hW0
  refine S3.range_own (by omega) (gf := 229) (lb := #[.pointer (some ⟨w.heap.size + 4 + 1, 0, none⟩), .pointer (some ⟨w.heap.size + 4, 0, none⟩), .pointer (some ⟨w.heap.size + 4 + 2, 0, none⟩)]) rfl (enters_of Tryz.func229 (by kernel_rfl) rfl) (w.heap.size + 4) (by omega)
    (fun st y => ∃ rest, splitC 47 (lst x) = st.1 ++ lst y :: rest) (fun st y => (st.1 ++ [lst y], st.2)) (fun st => st.1 = splitC 47 (lst x)) (PInv (patM n) intVals 29 3 1 133 47 (.func (.func 118) #[] #[.pointer (some ⟨K, 0, none⟩)]) w.heap.size w) (PErr (patM n) 29 47 w.heap.size w (lst x)) ([], x)
    (split_iter 47 _ (w.heap.size + 4) x (by omega) _ (fun st W h => h.vars) (fun st r W h => h.turn (Nat.le_refl _) r)) rfl (PInv.own (Nat.le_refl _) hz0) (PErr.own (Nat.le_refl _) hz0) hI0
    (fun y => { tmps := #[.string x, .string ⟨#[47]⟩, .int .i64 8, (.func (.func 118) #[] #[.pointer (some ⟨K, 0, none⟩)]), undef, undef, undef, .pointer (some ⟨w.heap.size, 0, none⟩), .pointer (some ⟨w.heap.size + 1, 0, none⟩), .pointer (some ⟨w.heap.size + 1 + 1, 0, none⟩), .pointer (some ⟨w.heap.size + 1 + 1 + 1, 0, none⟩),
      .string y, undef, undef, .string x, .string ⟨#[47]⟩, .func (.func 229) #[] #[.pointer (some ⟨w.heap.size + 1 + 1 + 1 + 1 + 1, 0, none⟩), .pointer (some ⟨w.heap.size + 1 + 1 + 1 + 1, 0, none⟩), .pointer (some ⟨w.heap.size + 1 + 1 + 1 + 1 + 2, 0, none⟩)],
      .string y, undef, undef, undef, undef, undef, undef, undef, undef, undef, undef, undef, undef, undef, undef, undef, undef, undef, undef], defers := [] }) ?assign ?body ?done ?stop
  case assign =>
    intro l y W K hK
    gi_wp2
    exact hK
  case body =>
    rintro l ⟨pre, r⟩ y W hI ⟨rest, hrest⟩
    obtain ⟨v, hv, hrow⟩ := hI.acc
    have hok := hI.ok
    dsimp only at hrow hok hrest ⊢
    have hxs : y.size < 4294967281 := by
      have := splitC_mem 47 (lst x) (lst y) (by rw [hrest]; simp)
      rw [show (lst y).length = y.size from (Lib.size_eq y).symm, show (lst x).length = x.size from (Lib.size_eq x).symm] at this
      omega
    obtain ⟨L, hL⟩ : ∃ L, (partsGo (patM n) pre []).1 = L := ⟨_, rfl⟩
    have hgo : ∀ qs, partsGo (patM n) (pre ++ qs) [] = partsGo (patM n) qs L := fun qs => by rw [partsGo_app (patM n) _ _ _ hok, hL]
    have hlen : L.length = pre.length := by rw [← hL, partsGo_len (patM n) pre [] hok]; simp
    have hpl : pre.length ≤ 4294967281 := by
      have h1 := splitC_len 47 (lst x)
      rw [hrest, List.length_append, show (lst x).length = x.size from (Lib.size_eq x).symm] at h1
      omega
    rw [hL] at hrow
    have hB := hI.below
    have cP := HF.out y W (by omega) hB
    obtain ⟨⟨t1, e2⟩, hR⟩ : ∃ R, (patM n) (lst y) = R := ⟨_, rfl⟩
    rw [hR] at cP
    simp only [exists_eq_left, List.append_toArray, List.cons_append, List.nil_append] at cP
    have c4 := hI.fb.cell
    obtain ⟨A, c, hvA⟩ := row_slice hrow
    subst hvA
    obtain ⟨nn, hn⟩ : ∃ nn, L.length = nn := ⟨_, rfl⟩
    rw [hn] at hrow hlen hv
    have HN0 := hid hn
    have HRow := hid hrow
    have HGo := hid hgo
    have HOk := hid hok
    have HLen := hid hlen
    have CP := hid cP
    clear hrow hgo hL hok hlen cP hn
    by_cases h2 : e2 = 0
    · subst h2
      gi_wp2_with fail
      refine ⟨trivial, ?_⟩
      refine (CallsIn.inRound l (callsIn_wide.2 CP.out)).mono ?_
      rintro e W2 ⟨rfl, hb2⟩
      have hv2 := S3.Boxed.under hv hb2
      have hcell2 := hv2.cell
      have hsz6 : w.heap.size + 7 ≤ W2.heap.size := by have := hI.size; have := hb2.size; omega
      obtain ⟨W4, hW4⟩ : ∃ W4, W4 = W2.alloc (.cells #[.int .i64 t1] 3) := ⟨_, rfl⟩
      have hb4 : Below W.heap.size W W4 := hW4 ▸ (hb2.alloc hb2.size _)
      have hrow4 : W4.ownsRow (w.heap.size + 7) 3 1 (.slice A nn c) nn (intVals L) := row_under HRow.out hb4
      have hv4 : Boxed W4 (w.heap.size + 3) 29 (.slice A nn c) := S3.Boxed.under hv hb4
      have hsz4 : w.heap.size + 7 ≤ W4.heap.size := by have := hI.size; have := hb4.size; omega
      have hmx : nn + 1 ≤ maxLen := by rw [HLen.out]; unfold maxLen; omega
      have hby : (nn + 1) * 8 ≤ 140737488355328 := by rw [HLen.out]; omega
      have hn4 : ∀ (j : Nat) (u : Value), (intVals [t1])[j]? = some u → W4.cell? ((⟨W2.heap.size, 0, none⟩ : Addr).add j) = some u := by
        intro j u hj
        rw [Addr.add_lit, hW4]
        have hnew := heap_alloc_new W2 (.cells #[.int .i64 t1] 3)
        skip
        rw [Lib.cell_of_heap hnew]
        match j, hj with
        | 0, hj => exact hj
        | j + 1, hj => simp [intVals] at hj
      have hone : ∀ u ∈ intVals [t1], u.oneCell' = true := by
        intro u hu
        simp [intVals] at hu
        subst hu; rfl
      have HRow4 := hid hrow4
      have HMx := hid hmx
      have HBy := hid hby
      have H6 := hid hsz4
      have HN := hid hn4
      have HO := hid hone
      have HV4 := hid hv4
      have HB4 := hid hb4
      clear hrow4 hmx hby hsz4 hn4 hv4 hb4 hone
      gi_wp2_with (gi_at_builtin; rw [← hW4]; refine wpListIn_append_own _ rfl _ _ 29 rfl (w.heap.size + 7) 3 i9 (.int .i64 0) 1 8 Tryz.underlying29 hi9 hz9 hsi9 hby9 rfl (by decide) _ nn (intVals L) rfl HRow4.out ⟨W2.heap.size, 0, none⟩ 1 1 (intVals [t1]) rfl rfl HN.out HO.out HMx.out HBy.out H6.out ?_)
      intro v' w3 hown' hgrow _
      rw [← hW4] at hgrow
      obtain ⟨g', cap', rfl⟩ := ownsRow_succ (k := nn) hown'
      have hv3 : Boxed w3 (w.heap.size + 3) 29 (.slice A nn c) := HV4.out.kept hgrow (fun e => by have := World.ownsRow.lt HRow4.out _ e.symm; omega)
      have hcell3 := hv3.cell
      have hfz3 := hv3.frozen
      have HOW := hid hown'
      have HGW := hid hgrow
      clear hown' hgrow
      gi_wp2
      obtain ⟨i1, i2⟩ := PInv.step hI (Nat.le_refl _) HB4.out hv HRow4.out HGW.out HOW.out (x := lst y) (LL := L ++ [t1]) (by rw [HGo.out]; simp [partsGo, hR]) (by rw [List.length_append, HN0.out]; rfl) (by rw [intVals_app]) W0.heap.size
      exact ⟨i2, i1⟩
    · have hgo2 : partsGo (patM n) (splitC 47 (lst x)) [] = ([], e2) := by rw [hrest, HGo.out]; simp [partsGo, hR, h2]
      have HGo2 := hid hgo2
      clear hgo2
      gi_wp2_with fail
      refine ⟨trivial, ?_⟩
      refine (CallsIn.inRound l (callsIn_wide.2 CP.out)).mono ?_
      rintro e W2 ⟨rfl, hb2⟩
      have k1 := S3.Boxed.under hI.r1 hb2
      have k2 := S3.Boxed.under hI.r2 hb2
      have hb3 : Below W.heap.size W W2 := hb2
      have f1 := k1.frozen
      have f2 := k2.frozen
      have g1 := k1.cell
      have g2 := k2.cell
      gi_wp2
      obtain ⟨W5, hW5⟩ : ∃ W5, W5 = W2 := ⟨_, rfl⟩
      rw [← hW5] at hb3 k1 k2 ⊢
      clear hW5
      have q1 := grownBy_setCell' W5 (w.heap.size + 1) (.slice none 0 0)
      have q2 := grownBy_setCell' (W5.setCell ⟨w.heap.size + 1, 0, none⟩ (.slice none 0 0)) (w.heap.size + 2) (.int .i64 e2)
      have hne' : ∀ a b : Nat, a ≠ b → some a ≠ some b := fun a b h e => h (by injection e)
      refine ⟨(((S3.keeps_below hb3).trans (KeepsOthers.setCell _ _ _)).trans (KeepsOthers.setCell _ _ _)).from _, ⟨?_, e2, by rw [HGo2.out], h2, (k1.set _).kept q2 (hne' _ _ (by omega)), (k2.kept q1 (hne' _ _ (by omega))).set _⟩⟩
      have hz2 := hb3.size
      have hzW := hI.size
      exact ((hB.trans (hb3.mono (by omega))).grown q1 (by omega) (fun k e => by injection e; omega)).grown q2 (by have := q1.size; omega) (fun k e => by injection e; omega)
  case done =>
    rintro D ⟨pre, r⟩ W hD hfin hI hK
    obtain ⟨v, hv, hrow⟩ := hI.acc
    have hok := hI.ok
    dsimp only at hfin hrow hok
    rw [hfin] at hrow hok
    obtain ⟨A, c, hvA⟩ := row_slice hrow
    subst hvA
    have hM : partsM (patM n) 47 8 (lst x) = if 8 < (partsGo (patM n) (splitC 47 (lst x)) []).1.length then ([], 2) else ((partsGo (patM n) (splitC 47 (lst x)) []).1, 0) := by
      unfold partsM
      rw [if_neg (by rw [hok]; simp)]
    obtain ⟨L, hL⟩ : ∃ L, (partsGo (patM n) (splitC 47 (lst x)) []).1 = L := ⟨_, rfl⟩
    rw [hL] at hM hrow hv
    have hcell := hv.cell
    have f1 := hI.r1.frozen
    have f2 := hI.r2.frozen
    have g1 := hI.r1.cell
    have g2 := hI.r2.cell
    have hBelow := hI.below
    have HRow := hid hrow
    clear hrow hL hok
    by_cases hk : 8 < L.length
    · rw [if_pos hk] at hM
      have hk' : decide ((8 : Int) < (L.length : Int)) = true := decide_eq_true (by omega)
      gi_wp2
      obtain ⟨k0, k1, k2, k3, k4⟩ := parts_end (TE := 3) (z := 1) (v := .slice none 0 0) (e := .int .i64 2) hI.r1 hI.r2 (D := D) (by omega) hK
      refine ⟨by simp, .inl ⟨_, _, rfl, run_takeDeferred k0, ?_⟩⟩
      refine ⟨_, results_cc rfl _ _ _ _ _ _ _ rfl rfl (loadInts k1.cell) (S3.loadErr k2.cell), ?_⟩
      rw [hM]
      exact ⟨⟨_, rfl, World.ownsRow_nil _ _ _ _⟩, hBelow.trans k3⟩
    · rw [if_neg hk] at hM
      have hk' : decide ((8 : Int) < (L.length : Int)) = false := decide_eq_false (by omega)
      gi_wp2
      obtain ⟨k0, k1, k2, k3, k4⟩ := parts_end (TE := 3) (z := 1) (v := .slice A L.length c) (e := .int .i64 0) hI.r1 hI.r2 (D := D) (by omega) hK
      refine ⟨by simp, .inl ⟨_, _, rfl, run_takeDeferred k0, ?_⟩⟩
      refine ⟨_, results_cc rfl _ _ _ _ _ _ _ rfl rfl (loadInts k1.cell) (S3.loadErr k2.cell), ?_⟩
      rw [hM]
      exact ⟨⟨_, rfl, rowLow (k4 _ _ _ HRow.out) (by omega)⟩, hBelow.trans k3⟩
  case stop =>
    rintro D W hD ⟨hb, e, he, hne0, h1, h2⟩ hK
    have hM : partsM (patM n) 47 8 (lst x) = ([], e) := by
      unfold partsM
      rw [if_pos (by rw [he]; exact hne0), he]
    obtain ⟨h1', h2', hlow⟩ := parts_low (D := D) h1 h2 (by omega)
    gi_wp2
    refine ⟨by simp, .inl ⟨_, _, rfl, run_takeDeferred hK, ?_⟩⟩
    refine ⟨_, results_cc rfl _ _ _ _ _ _ _ rfl rfl (loadInts h1'.cell) (S3.loadErr h2'.cell), ?_⟩
    rw [hM]
    exact ⟨⟨_, rfl, World.ownsRow_nil _ _ _ _⟩, hlow _ hb (Nat.le_refl _)⟩
end Go.Proofs.YtigdcgklpapfbaaGreatDoor.S10

