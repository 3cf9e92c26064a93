/-
  Natural order: the program's Compare. Conditions: the strings fit into memory.
  Reading one field of a way: a code, a number of slots. Conditions: the library's variable holds an error.
  From a walk to a row, for every statement of this seat: a call that returns true and turns nothing that was there meets what a row asks. Condition: as the lemmas state.
  Valid of travel: isSquare, areEntries. Conditions: the table lies in memory.
  The first error of a table: Valid of travel, Valid of the specification. Conditions: the table lies in memory.
  Lists of lists of strings: Plain of the specification of records, SameLists. Conditions: the lists lie in memory.
  Lists of lists of strings that a call makes; the record of a way: writeFields of travel. Conditions: as stated.
  The records of ways: Write of travel, Write of the specification. Conditions: the table lies in memory.
-/
import Derived.Test.YtocmbifljkcmeaaDoorTN01
import Derived.Test.YtocmbifljkcmeaaDoorTN02
import Derived.Test.YtocmbifljkcmeaaDoorTN03
import Derived.Lib.Bytealg
import Derived.Test.YtocmbifljkcmeaaDoorProg
import Derived.WalkKit
import Derived.WalkSpells
import Derived.WalkLawsBesides
import Derived.Lib.Hide
import Derived.Deep.QuietTactic
import Derived.BigQuiet
import Derived.Laws.Rows
import Derived.OwnWalk
import Derived.Lib.BufferWrite
import Derived.Lib.UnsafeStr
import Derived.Laws.IdiomStrings
import Derived.Laws.BytesArg
import Derived.Laws.BytesString
import Derived.Shelf.Strconv.Atoi
import Derived.Shelf.Strconv.Itoa0
import Derived.Shelf.Strconv.Itoa1
import Derived.Shelf.LaysM
import Derived.Shelf.Strconv.Itoa2
import Derived.Shelf.Strconv.Itoa3
import Derived.Shelf.Strconv.AtoiErrFast
import Derived.Shelf.Strconv.ParseIntEmpty
import Derived.Shelf.Strconv.AtoiFail
import Derived.Shelf.Strconv.Clone
import Derived.Shelf.Strconv.SyntaxError
import Derived.Shelf.LaysC
import Derived.Shelf.Strconv.ToError
import Derived.Shelf.Strconv.AtoiErr
import Derived.Shelf.Bits.Mul64
import Derived.Shelf.Slices.Turned
import Derived.Laws.OwnMore
import Derived.Lib.IndexLaws
import Derived.Lib.ItoaNum
import Derived.Lib.Atoi
import Derived.Handy
import Derived.Laws.ResultCell
import Derived.RegionTactic
import Derived.Deep.DeepCutAuto
import Derived.Deep.CutBlock
import Derived.Deep.RegionHeld3
import Derived.Deep.RegionLaw
import Derived.Deep.RegionWith
import Derived.Deep.AppendLies
import Derived.Maps.AppendAt
import Derived.StillTailTactics
import Derived.Shelf.Abstract
import Derived.Lib.SlTrimSet
import Derived.Lib.AtoiErrMem
import Derived.Test.YtocmbifljkcmeaaDoorCards
import Derived.Test.YtocmbifljkcmeaaDoorTie
import Derived.Lib.SmallJoins
import Derived.SizedLaws
import Derived.Stop.LaidErr
import Derived.Deep.DeepWitnessRowRef
import Derived.ProofKit
import Derived.OpenShut
import Derived.Deep.DeepHandedRow
import Derived.Deep.DeepLaidRun
import Derived.Lib.LaidU8
import Derived.Shelf.Vars
set_option linter.unusedVariables false
namespace Go.Proofs.YtocmbifljkcmeaaDoor.S3
open Go Go.Proofs Go.RowKit Go.Lib

theorem str_no {s : ByteArray} (h : 0 < s.size) : (s.toList == []) = false ∧ (!s.toList.isEmpty) = true ∧ (s.toList != []) = true ∧ ¬ s.toList = [] := by
  have hne : s.toList ≠ [] := fun e => by
    rw [Lib.toList_data] at e
    rw [Lib.size_eq, e] at h
    simp at h
  refine ⟨by simpa using hne, by simpa using hne, by simpa using hne, hne⟩
theorem str_yes {s : ByteArray} (h : ¬ 0 < s.size) : (s.toList == []) = true ∧ (!s.toList.isEmpty) = false ∧ (s.toList != []) = false ∧ s.toList = [] := by
  have e : s.toList = [] := by
    rw [Lib.toList_data]
    exact List.eq_nil_of_length_eq_zero (by rw [← Lib.size_eq]; omega)
  refine ⟨by simpa using e, by simp [e], by simp [e], e⟩
end Go.Proofs.YtocmbifljkcmeaaDoor.S3

set_option linter.unusedVariables false
namespace Go.Proofs.YtocmbifljkcmeaaDoor
open Go Go.Proofs Go.RowKit Go.Lib

/-- What the package-level variables hold. -/
structure Env8 (w : World) : Prop where
  ev : ∃ ev, w.cell? ⟨1, 0, none⟩ = some ev ∧ (ev = .nilIface ∨ ∃ te pe, ev = .iface te pe)
  size : 1 < w.heap.size
theorem Env8.below {w w' : World} (h : Env8 w) {B : Nat} (hb : Below B w w') (hB : 1 < B) : Env8 w' := by
  obtain ⟨ev, he, hk⟩ := h.ev
  have hs := h.size
  exact ⟨⟨ev, (hb.cell (p := ⟨1, 0, none⟩) (by show 1 < B; omega)).trans he, hk⟩, Nat.le_trans hs hb.size⟩
theorem lst_cons8 {s : ByteArray} (h : 0 < s.size) : ∃ r, lst s = s[0]'h :: r := by
  have hl : 0 < (lst s).length := by rw [← Lib.size_eq]; exact h
  cases hs : lst s with
  | nil => rw [hs] at hl; simp at hl
  | cons a r =>
    refine ⟨r, ?_⟩
    congr 1
    have h2 : (lst s)[0]? = some (s[0]'h) := by
      have h3 : 0 < s.data.size := h
      show s.data.toList[0]? = _
      rw [Array.getElem?_toList, Array.getElem?_eq_getElem h3]
      rfl
    rw [hs] at h2
    simpa using h2
theorem decFrom_not8 : ∀ (l : Str) (acc : Nat), l.all S3.dg = false → Lib.decFrom acc l = none
  | [], acc, h => by simp at h
  | c :: r, acc, h => by
    rw [Lib.decFrom]
    by_cases hc : S3.dg c = true
    · have h3 : 48 ≤ c.toNat ∧ c.toNat ≤ 57 := by simpa [S3.dg] using hc
      rw [show Lib.digitVal c = some (c.toNat - 48) by simp [Lib.digitVal, h3]]
      exact decFrom_not8 r _ (by rw [List.all_cons, hc, Bool.true_and] at h; exact h)
    · have h3 : ¬ (48 ≤ c.toNat ∧ c.toNat ≤ 57) := by simpa [S3.dg] using hc
      rw [show Lib.digitVal c = none by simp [Lib.digitVal]; omega]
theorem atoi_numT (s : Str) (a : UInt8) (r : Str) (hs : s = a :: r) (hl : s.length ≤ 2) (h : 48 ≤ a.toNat) : Lib.atoi s = if (numT s).2 = false then none else some (numT s).1 := by
  subst hs
  by_cases hd : (a :: r).all S3.dg = true
  · have hN : numT (a :: r) = (((S3.numN (a :: r) : Nat) : Int), true) := if_pos ⟨by simp, hl, hd⟩
    rw [hN, if_neg (by simp)]
    exact S3.atoi_num _ (by simp) (List.all_eq_true.1 hd)
  · have hN : numT (a :: r) = (0, false) := if_neg (fun k => hd k.2.2)
    rw [hN, if_pos rfl]
    have e1 : (a == 45) = false := by
      rw [beq_eq_false_iff_ne]
      rintro rfl
      simp at h
    have e2 : (a == 43) = false := by
      rw [beq_eq_false_iff_ne]
      rintro rfl
      simp at h
    unfold Lib.atoi
    dsimp only
    rw [e1, e2, if_neg (by simp), if_neg (by simp)]
    unfold Lib.decNat
    rw [if_neg (by simp), decFrom_not8 _ _ (by simpa using hd)]
    rfl
theorem numT_low {a : UInt8} {r : Str} (h : a.toNat < 48) : numT (a :: r) = (0, false) := by
  refine if_neg (fun k => ?_)
  have h1 : S3.dg a = true := (List.all_eq_true.1 k.2.2) a (by simp)
  have h3 : 48 ≤ a.toNat ∧ a.toNat ≤ 57 := by simpa [S3.dg] using h1
  omega
theorem numT_long {s : Str} (h : 2 < s.length) : numT s = (0, false) := if_neg (fun k => by omega)
theorem lst_nil8 {s : ByteArray} (h : ¬ 0 < s.size) : lst s = [] := List.eq_nil_of_length_eq_zero (by rw [← Lib.size_eq]; omega)
set_option maxHeartbeats 2000000 in
/-- ReadPadded of numerals at two digits. -/
theorem padded_any (s : ByteArray) (w : World) (hE : Env8 w) : Calls Tryd.prog 63 #[.string s, .int .i64 2] w fun e w' => e = .returned (.tuple #[.int .i64 (numT (lst s)).1, .bool (numT (lst s)).2]) ∧ Below w.heap.size w w' := by
  obtain ⟨⟨N, B⟩, hN⟩ : ∃ N, numT (lst s) = N := ⟨_, rfl⟩
  rw [hN]
  dsimp only
  by_cases h0 : 0 < s.size
  · obtain ⟨x1, x2, x3, x4⟩ := S3.str_no h0
    obtain ⟨r, hr⟩ := lst_cons8 h0
    by_cases h2 : s.size ≤ 2
    · have h2' : (s.size : Int) ≤ 2 := by omega
      have h2'' : ¬ (2 : Int) < s.size := by omega
      obtain ⟨a, ha⟩ : ∃ a, s[0]'h0 = a := ⟨_, rfl⟩
      rw [ha] at hr
      by_cases h3 : a.toNat < 48
      · have h3' : (a.toNat : Int) < 48 := by omega
        have : ((0 : Int), false) = (N, B) := by rw [← hN, hr, numT_low h3]
        obtain ⟨rfl, rfl⟩ := Prod.mk.inj this
        clear hN hr hE this
        go_enter Tryd.func63, Tryd.ntmps63
        go_wp2
        go_ret2
        exact ⟨rfl, Below.refl _ _⟩
      · have h3' : ¬ (a.toNat : Int) < 48 := by omega
        have hat := atoi_numT (lst s) a r hr (by rw [← Lib.size_eq]; exact h2) (by omega)
        have h00 : B = false → N = 0 := by
          intro hb
          subst hb
          unfold numT at hN
          split at hN
          · simp at hN
          · exact (Prod.mk.inj hN).1.symm
        have hrng := numT_rng (lst s)
        rw [hN] at hat hrng
        obtain ⟨ev, hev, hev2⟩ := hE.ev
        cases B with
        | false =>
          obtain rfl := h00 rfl
          rw [if_pos rfl] at hat
          have cA := hid (Tryd.strconv_Atoi_err s (by omega) hat ev w hev hev2)
          clear hN hr hE hat hev hev2 h00 hrng
          go_enter Tryd.func63, Tryd.ntmps63
          go_wp2_with fail
          refine cA.out.mono ?_
          rintro e w' ⟨M, rfl, _, _, hb⟩
          have HB := hid hb
          clear hb
          go_wp2
          go_ret2
          exact ⟨rfl, HB.out⟩
        | true =>
          rw [if_neg (by simp)] at hat
          have cA := hid (Tryd.strconv_Atoi s N (by omega) hat w)
          clear hN hr hE hat hev hev2 h00 hrng
          go_enter Tryd.func63, Tryd.ntmps63
          go_wp2_with fail
          refine cA.out.mono ?_
          rintro e w' ⟨rfl, t, hw⟩
          have HB : Hid (Below w.heap.size w w') := hid (by rw [hw]; exact Lib.bytesWorld_below _ _ _)
          clear hw
          go_wp2
          go_ret2
          exact ⟨rfl, HB.out⟩
    · have h2' : ¬ (s.size : Int) ≤ 2 := by omega
      have h2'' : (2 : Int) < s.size := by omega
      have : ((0 : Int), false) = (N, B) := by rw [← hN, numT_long (by rw [← Lib.size_eq]; omega)]
      obtain ⟨rfl, rfl⟩ := Prod.mk.inj this
      clear hN hr hE this
      go_enter Tryd.func63, Tryd.ntmps63
      go_wp2
      go_ret2
      exact ⟨rfl, Below.refl _ _⟩
  · obtain ⟨x1, x2, x3, x4⟩ := S3.str_yes h0
    have : ((0 : Int), false) = (N, B) := by rw [← hN, lst_nil8 h0]; rfl
    obtain ⟨rfl, rfl⟩ := Prod.mk.inj this
    clear hN hE this
    go_enter Tryd.func63, Tryd.ntmps63
    go_wp2
    go_ret2
    exact ⟨rfl, Below.refl _ _⟩
set_option maxHeartbeats 2000000 in
theorem tcode_any (s : ByteArray) (w : World) : Calls Tryd.prog 52 #[.string s] w fun e w' => e = .returned (.tuple #[.string (if S3.validC (lst s) = true then s else ⟨#[]⟩), .int .i64 (if S3.validC (lst s) = true then 0 else 10)]) ∧ w' = w := by
  have cV := fun w => S3.valid_any s w
  cases hv : S3.validC (lst s) with
  | false =>
    rw [show s.data.toList = lst s from rfl, hv] at cV
    rw [if_neg (by simp), if_neg (by simp)]
    clear hv
    go_enter Tryd.func52, Tryd.ntmps52
    go_wp2_with fail
    refine (cV _).mono ?_
    rintro e w' ⟨rfl, rfl⟩
    go_wp2
    go_ret2
    exact ⟨rfl, rfl⟩
  | true =>
    rw [show s.data.toList = lst s from rfl, hv] at cV
    rw [if_pos rfl, if_pos rfl]
    clear hv
    go_enter Tryd.func52, Tryd.ntmps52
    go_wp2_with fail
    refine (cV _).mono ?_
    rintro e w' ⟨rfl, rfl⟩
    go_wp2
    go_ret2
    exact ⟨rfl, rfl⟩
set_option maxHeartbeats 2000000 in
theorem tslots_any (s : ByteArray) (w : World) (hE : Env8 w) : Calls Tryd.prog 53 #[.string s] w fun e w' => e = .returned (.tuple #[.int .i64 (slotsM (lst s)).1, .int .i64 (slotsM (lst s)).2]) ∧ Below w.heap.size w w' := by
  have cP := padded_any s w hE
  unfold slotsM
  obtain ⟨⟨N, B⟩, hN⟩ : ∃ N, numT (lst s) = N := ⟨_, rfl⟩
  rw [hN] at cP ⊢
  dsimp only at cP ⊢
  have CP := hid cP
  clear cP hN hE
  cases B with
  | false =>
    rw [if_pos rfl]
    go_enter Tryd.func53, Tryd.ntmps53
    go_wp2_with fail
    refine CP.out.mono ?_
    rintro e w' ⟨rfl, hb⟩
    have HB := hid hb
    clear hb
    go_wp2
    go_ret2
    exact ⟨rfl, HB.out⟩
  | true =>
    rw [if_neg (by simp)]
    by_cases h24 : 24 < N
    · rw [if_pos h24]
      go_enter Tryd.func53, Tryd.ntmps53
      go_wp2_with fail
      refine CP.out.mono ?_
      rintro e w' ⟨rfl, hb⟩
      have HB := hid hb
      clear hb
      go_wp2
      go_ret2
      exact ⟨rfl, HB.out⟩
    · rw [if_neg h24]
      go_enter Tryd.func53, Tryd.ntmps53
      go_wp2_with fail
      refine CP.out.mono ?_
      rintro e w' ⟨rfl, hb⟩
      have HB := hid hb
      clear hb
      go_wp2
      go_ret2
      exact ⟨rfl, HB.out⟩
end Go.Proofs.YtocmbifljkcmeaaDoor

set_option linter.unusedVariables false
namespace Go.Proofs.YtocmbifljkcmeaaDoor
open Go Go.Proofs Go.ChangeShapes Go.WideShapes Go.ChangeAt Go.RowKit

section
variable {H : Type} {enc : TypeId × Value → H} {P : Program}
/-- Arguments below the heap's old size read as they did. -/
theorem trodAll_stays (hl : laidOutB P = true) {W W' : World} (hb : Below W.heap.size W W') {sp : Nat → Bool} : ∀ {ts : List TypeId} {vs : List Value} {ds : List (DataW H)} {ps : List MemPlace},
    (∀ t ∈ ts, P.readableRec t = true ∧ t < P.types.size) → DataW.TrodAll enc P W 0 (fun _ => true) true ts vs ds ps → (∀ x ∈ ps, x.block < W.heap.size) → (∀ x ∈ ps, sp x.block = true) → DataW.TrodAll enc P W' 0 sp true ts vs ds ps
  | [], vs, ds, ps, _, h, _, _ => by
    obtain ⟨rfl, rfl, rfl⟩ := trodAll_nil h
    exact trodAll_mk0
  | t :: ts, vs, ds, ps, ht, h, hlt, hsp => by
    obtain ⟨v, vs', d, ds', p, q, rfl, rfl, rfl, h0, hr⟩ := trodAll_cons h
    have hp : ∀ x ∈ p, x.block < W.heap.size := fun x hx => hlt x (List.mem_append.2 (.inl hx))
    refine trodAll_cons_mk (WideElems.Trod_stays hl (ht t (by simp)).1 (ht t (by simp)).2 h0 (fun x hx => hb.same (hp x hx)) (fun x hx => hsp x (List.mem_append.2 (.inl hx)))) ?_
    exact trodAll_stays hl hb (fun t' h' => ht t' (by simp [h'])) hr (fun x hx => hlt x (List.mem_append.2 (.inr hx))) (fun x hx => hsp x (List.mem_append.2 (.inr hx)))

/-- The law's end. -/
theorem law_post {f : Func} {s : ChangeSpec} {apart fresh again : Bool} {tb : TypeId} {W W' : World} {args : Array Value} {ds gs : List (DataW H)} {before : List MemPlace}
    (hl : laidOutB P = true) (hts : ∀ t ∈ f.params.toList, P.readableRec t = true ∧ t < P.types.size) (hres : f.resultTypes = #[tb]) (htb : P.underlying tb = some .bool)
    (hvars : s.vars = []) (hfn : s.fn H (ds ++ gs) = { results := [.lit (.bool true)], args := ds, vars := [] })
    (hW : DataW.Whole enc P f.params.toList s.vars apart W args.toList ds gs before) (hb : Below W.heap.size W W') :
    s.post enc P f apart fresh false again W args (.bool true) W' := by
  have hlt : ∀ p ∈ before, p.block < W.heap.size := fun p hp => hW.lt p hp
  have hW0 := hW
  obtain ⟨p, q, hA, hV, hpq, hz, hn⟩ := hW0
  rw [hvars] at hV
  obtain ⟨rfl, rfl⟩ := trodVars_none hV
  rw [List.append_nil] at hpq
  subst hpq
  have hr : ∀ (b : Nat) (sp : Nat → Bool) (hd : Bool), DataW.TrodAll enc P W' b sp hd f.resultTypes.toList ((Value.bool true).resultList f.resultTypes.size) (s.fn H (ds ++ [])).results [] := fun b sp hd => by
    rw [hres, hfn]
    exact trodAll_cons_mk (shut_bool htb true) trodAll_mk0
  have ha : ∀ sp : Nat → Bool, (∀ x ∈ before, sp x.block = true) → DataW.TrodAll enc P W' 0 sp true f.params.toList args.toList (s.fn H (ds ++ [])).args before := fun sp hsp => by
    rw [hfn]
    exact trodAll_stays hl hb hts hA hlt hsp
  have hold : ∀ x ∈ before, (fun b => decide (b < W.heap.size)) x.block = true := fun x hx => by simpa using hlt x hx
  have hvs : ∀ sp : Nat → Bool, DataW.TrodVars enc P W' sp s.vars (s.fn H (ds ++ [])).vars [] := fun sp => by
    rw [hvars, hfn]
    exact rfl
  refine ⟨ds, [], before, [], before, [], hW, hr _ _ _, ha _ hold, hvs _, World.keptBut_mono (fun x hx => ⟨hx, .inr (.inl hx)⟩) (hb.frame (· ∈ before)), fun _ => ?_⟩
  refine ⟨?_, _, _, ([] ++ before) ++ [], ⟨[] ++ before, [], trodAll_append (ha _ (fun _ _ => rfl)) (hr _ _ _), hvs _, rfl, ?_, ?_⟩, ?_⟩
  · intro j t r hj hr'
    rw [hres] at hj hr'
    match j, hj, hr' with
    | 0, hj, hr' =>
      simp at hj
      subst hj
      obtain rfl : (Value.bool true) = r := by simpa [Value.resultList] using hr'
      exact okWide_bool_mk htb true
    | j + 1, hj, _ => simp at hj
  · intro b off hp
    have hin : MemPlace.cell b off ∈ before := by simpa using hp
    rw [hb.frozen (hlt _ hin)]
    exact hz b off hin
  · intro h
    simpa using hn h
  · intro x hx _
    simpa using hx
end

theorem own : ownKnob Tryd.prog.godebug = none := by kernel_rfl
theorem laidOut : laidOutB Tryd.prog = true := by kernel_rfl
theorem rowRecs : Tryd.prog.readableRec 38 = true ∧ 38 < Tryd.prog.types.size := ⟨by kernel_rfl, of_decide_eq_true (by kernel_rfl)⟩
theorem uErr : Tryd.prog.underlying 109 = some (.interface #[("Error", 153)]) := by kernel_rfl
theorem star : "*" ++ "errors.errorString" = "*errors.errorString" := by decide
theorem rowPtr (u : TypeId) (h : Tryd.prog.typeName? 3 u = some "*errors.errorString") : u = 150 :=
  typeName_ptr_named (nm := "errors.errorString") (by rw [star]; kernel_rfl) (by kernel_rfl) (by decide) u (by rw [star]; exact h)
theorem gSyn : Tryd.prog.globalNamed "strconv.ErrSyntax" = some 1 := by kernel_rfl
/-- A world in which the variables hold what their initialisers lay. -/
def cellsOfAgg : DataW Unit → Array Value
  | .agg l => (l.map fun | .lit (.int k z) => Value.int k z | _ => undef).toArray
  | _ => #[]
noncomputable def laidWorld (os : Os) : World :=
  let N := (World.settled Tryd.prog os).heap.size
  let w0 := World.holding Tryd.prog os ⟨#[.cells #[.string ⟨#[105, 110, 118, 97, 108, 105, 100, 32, 115, 121, 110, 116, 97, 120]⟩] 152, .cells #[.string ⟨#[118, 97, 108, 117, 101, 32, 111, 117, 116, 32, 111, 102, 32, 114, 97, 110, 103, 101]⟩] 152], #[], []⟩
  let put (h : Array Obj) (g : Nat) (cs : Array Value) : Array Obj := h.modify g fun
    | .cells _ t frozen => .cells cs t frozen
    | o => o
  let h3 := put (put (put (put (put (w0.heap) 1 #[.iface 150 (.pointer (some ⟨N, 0, none⟩))]) 2 #[.iface 150 (.pointer (some ⟨N + 1, 0, none⟩))]) 0 (cellsOfAgg Rows.laid_internal_strconv_uint64pow10)) 3 (cellsOfAgg Rows.laid_math_bits_deBruijn32tab)) 4 (cellsOfAgg Rows.laid_math_bits_deBruijn64tab)
  { w0 with heap := h3 }
end Go.Proofs.YtocmbifljkcmeaaDoor

set_option linter.unusedVariables false
namespace Go.Proofs.YtocmbifljkcmeaaDoor
open Go Go.Proofs Go.RowKit Go.Lib

set_option maxHeartbeats 1000000 in
theorem sq1_any (A : Option Addr) (m c B : Nat) (n : Int) (w : World) (h : w.cell? ⟨B, 0, none⟩ = some (.int .i64 n)) :
    Calls Tryd.prog 47 #[.slice A m c, .pointer (some ⟨B, 0, none⟩)] w fun e w' => e = .returned (.bool ((m : Int) != n)) ∧ w = w' := by
  go_enter Tryd.func47, Tryd.ntmps47
  go_wp2
  go_ret
  exact ⟨rfl, rfl⟩
theorem egSq : ∀ args w, (callFunc 47 args).run Tryd.prog w = .ok (.enter 47 args) w := enters_of Tryd.func47 (by kernel_rfl) rfl
set_option maxHeartbeats 2000000 in
set_option maxRecDepth 100000 in
theorem sqIndex_any (S : Option Addr) (R : List (List Int)) (d B n : Nat) (P : Nat → Prop) (w : World) (h : TabIn w P S R) (h63 : R.length ≤ 9223372036854775807) (hB : w.cell? ⟨B, 0, none⟩ = some (.int .i64 (n : Int))) :
    Calls Tryd.prog 62 #[.slice S R.length d, .func (.func 47) #[] #[.pointer (some ⟨B, 0, none⟩)]] w fun e w' => (∃ v : Int, e = .returned (.int .i64 v) ∧ decide (v ≥ 0) = !(R.all fun r => decide (r.length = n))) ∧ w = w' := by
  obtain ⟨ANS, hA⟩ : ∃ ANS, (R.all fun r => decide (r.length = n)) = ANS := ⟨_, rfl⟩
  rw [hA]
  have HA := hid hA
  have HH := hid h
  have eg := egSq
  clear h hA
  go_enter Tryd.func62, Tryd.ntmps62
  go_wp2
  go_loop [5, 8] (fun _ iv => ∃ i : Nat, iv = .int .i64 (i : Int) ∧ i ≤ R.length ∧ Hid (∀ j, j < i → (R.getD j []).length = n)) (fun _ iv => R.length - (RowKit.intOf iv).toNat)
  case atStart => exact ⟨0, rfl, Nat.zero_le _, hid (fun j hj => absurd hj (by omega))⟩
  case round =>
    obtain ⟨i, rfl, hi, hE⟩ := hrel
    by_cases hlt : i < R.length
    · have hltz : (i : Int) < (R.length : Int) := by omega
      obtain ⟨b, off, A', c', rfl, hPb, y0, _, _, _⟩ := HH.out.at_ hlt
      obtain ⟨m, hm⟩ : ∃ m, (R.getD i []).length = m := ⟨_, rfl⟩
      rw [hm] at y0
      have cS := sq1_any A' m c' B n w hB
      by_cases hmn : m = n
      · have hb : ((m : Int) != (n : Int)) = false := by simp [hmn]
        have HN : Hid (∀ j, j < i + 1 → (R.getD j []).length = n) := hid (fun j hj => by
          by_cases h : j < i
          · exact hE.out j h
          · rw [show j = i by omega, hm, hmn])
        rw [hb] at cS
        clear hm hmn hE hb
        go_wp2_with fail
        refine cS.mono ?_
        rintro e w' ⟨rfl, rfl⟩
        go_wp2
        go_round
        case rel => exact ⟨i + 1, by go_num, by omega, HN⟩
        case measure => simp [RowKit.intOf]; omega
      · have hb : ((m : Int) != (n : Int)) = true := by simp; omega
        have HF : Hid (ANS = false) := hid (by
          rw [← HA.out, Bool.eq_false_iff]
          intro e
          rw [List.all_eq_true] at e
          have := e _ (List.getElem_mem hlt)
          simp only [decide_eq_true_eq] at this
          have e2 : R.getD i [] = R[i] := by simp [List.getD, List.getElem?_eq_getElem hlt]
          rw [e2] at hm
          omega)
        rw [hb] at cS
        clear hm hmn hE hb
        go_wp2_with fail
        refine cS.mono ?_
        rintro e w' ⟨rfl, rfl⟩
        go_wp2
        go_ret
        refine ⟨⟨_, rfl, ?_⟩, rfl⟩
        rw [HF.out]
        simp
    · have hltz : ¬ (i : Int) < (R.length : Int) := by omega
      have HF : Hid (ANS = true) := hid (by
        rw [← HA.out, List.all_eq_true]
        intro r hr
        obtain ⟨j, hj, rfl⟩ := List.mem_iff_getElem.1 hr
        have := hE.out j (by omega)
        have e2 : R.getD j [] = R[j] := by simp [List.getD, List.getElem?_eq_getElem hj]
        rw [e2] at this
        simpa using this)
      clear hE
      go_wp2
      go_ret
      refine ⟨⟨_, rfl, ?_⟩, rfl⟩
      rw [HF.out]
      rfl
set_option maxHeartbeats 2000000 in
theorem sqContains_any (S : Option Addr) (R : List (List Int)) (d B n : Nat) (P : Nat → Prop) (w : World) (h : TabIn w P S R) (h63 : R.length ≤ 9223372036854775807) (hB : w.cell? ⟨B, 0, none⟩ = some (.int .i64 (n : Int))) :
    Calls Tryd.prog 48 #[.slice S R.length d, .func (.func 47) #[] #[.pointer (some ⟨B, 0, none⟩)]] w fun e w' => e = .returned (.bool (!(R.all fun r => decide (r.length = n)))) ∧ w = w' := by
  have cI := sqIndex_any S R d B n P w h h63 hB
  obtain ⟨ANS, hA⟩ : ∃ ANS, (R.all fun r => decide (r.length = n)) = ANS := ⟨_, rfl⟩
  rw [hA] at cI ⊢
  obtain ⟨m, hm⟩ : ∃ m, R.length = m := ⟨_, rfl⟩
  rw [hm] at cI ⊢
  clear hA hm h h63 hB
  go_enter Tryd.func48, Tryd.ntmps48
  go_wp2_with fail
  refine cI.mono ?_
  rintro e w' ⟨⟨v, rfl, hv⟩, rfl⟩
  have HV := hid hv
  clear hv
  go_wp2
  go_ret
  exact ⟨by rw [← HV.out]; rfl, rfl⟩
set_option maxHeartbeats 2000000 in
set_option maxRecDepth 100000 in
theorem isSquare_any (S : Option Addr) (R : List (List Int)) (d n : Nat) (w : World) (h : TabIn w (fun b => b < w.heap.size) S R) (h63 : R.length ≤ 9223372036854775807) (hn : n ≤ 9223372036854775807) :
    Calls Tryd.prog 29 #[.slice S R.length d, .int .i64 (n : Int)] w (Says (.bool (sqrB R n)) w) := by
  unfold Says
  have hb1 := (Below.refl w.heap.size w).alloc (Nat.le_refl _) (.cells #[.int .i64 (n : Int)] 3)
  have e1 := heap_alloc_new w (.cells #[.int .i64 (n : Int)] 3)
  have x0 : (w.alloc (.cells #[.int .i64 (n : Int)] 3)).cell? ⟨w.heap.size, 0, none⟩ = some (.int .i64 (n : Int)) := by rw [Lib.cell_of_heap e1]; rfl
  have cC := fun W (hb : Below w.heap.size w W) (hx : W.cell? ⟨w.heap.size, 0, none⟩ = some (.int .i64 (n : Int))) => sqContains_any S R d w.heap.size n _ W (h.kept fun b hb' => hb.block b hb') h63 hx
  obtain ⟨ANS, hA⟩ : ∃ ANS, (R.all fun r => decide (r.length = n)) = ANS := ⟨_, rfl⟩
  have hsq : sqrB R n = (decide (R.length = n) && ANS) := by unfold sqrB; rw [hA]
  rw [hsq]
  rw [hA] at cC
  obtain ⟨m, hm⟩ : ∃ m, R.length = m := ⟨_, rfl⟩
  rw [hm] at cC ⊢
  have HB1 := hid hb1
  have cC1 := cC _ hb1 x0
  have CC := hid cC1
  clear cC cC1 hA hm h h63 hb1 e1 hsq
  by_cases hmn : m = n
  · have hb : ((m : Int) == (n : Int)) = true := by simp [hmn]
    rw [decide_eq_true hmn, Bool.true_and]
    clear hmn
    go_enter Tryd.func29, Tryd.ntmps29
    go_wp2_with fail
    refine CC.out.mono ?_
    rintro e w' ⟨rfl, rfl⟩
    go_wp2
    go_ret
    exact ⟨by simp, HB1.out⟩
  · have hb : ((m : Int) == (n : Int)) = false := by simp; omega
    rw [decide_eq_false hmn, Bool.false_and]
    clear hmn
    go_enter Tryd.func29, Tryd.ntmps29
    go_wp2
    go_ret
    exact ⟨rfl, HB1.out⟩
set_option maxHeartbeats 4000000 in
set_option maxRecDepth 100000 in
theorem areEntries_any (S : Option Addr) (R : List (List Int)) (d n : Nat) (P : Nat → Prop) (w : World) (h : TabIn w P S R) (hs : sqrB R n = true) (h63 : n ≤ 9223372036854775807) :
    Calls Tryd.prog 30 #[.slice S n d] w fun e w' => e = .returned (.bool (entsOk R n)) ∧ w = w' := by
  obtain ⟨ANS, hA⟩ : ∃ ANS, entsOk R n = ANS := ⟨_, rfl⟩
  rw [hA]
  have HA := hid hA
  have HT : Hid ((∀ i < n, ∀ k < n, okAt R i k = true) → ANS = true) := hid (fun h => by rw [← hA]; exact (entsOk_iff R n).2 h)
  have HF : Hid (∀ i k, i < n → k < n → okAt R i k = false → ANS = false) := hid (fun i k hi hk h => by
    rw [← hA, Bool.eq_false_iff]
    intro e
    rw [(entsOk_iff R n).1 e i hi k hk] at h
    cases h)
  have HH := hid (fun hn => h.sq hs hn)
  clear h hA hs
  go_enter Tryd.func30, Tryd.ntmps30
  go_wp2
  go_loop [3, 4, 5, 6, 9] (fun _ _ _ _ iv => ∃ i : Nat, iv = .int .i64 (i : Int) ∧ i ≤ n ∧ Hid (∀ a < i, ∀ k < n, okAt R a k = true)) (fun _ _ _ _ iv => n - (RowKit.intOf iv).toNat)
  case atStart => exact ⟨0, rfl, Nat.zero_le _, hid (fun j hj => absurd hj (by omega))⟩
  case round =>
    obtain ⟨i, rfl, hi, hE⟩ := hrel
    by_cases hlt : i < n
    · have hltz : (i : Int) < (n : Int) := by omega
      obtain ⟨b, off, rfl, _, hc⟩ := HH.out (by omega)
      obtain ⟨bi, oi, ci, y0, _, _, _, y1⟩ := hc i hlt
      have HC := hid hc
      have HY := hid y1
      clear hc y1
      go_wp2
      go_loop [5, 6, 16] (fun _ _ kv => ∃ k : Nat, kv = .int .i64 (k : Int) ∧ k ≤ n ∧ Hid (∀ j < k, okAt R i j = true)) (fun _ _ kv => n - (RowKit.intOf kv).toNat)
      case atStart => exact ⟨0, rfl, Nat.zero_le _, hid (fun j hj => absurd hj (by omega))⟩
      case round =>
        obtain ⟨k, rfl, hk, hE2⟩ := hrel
        by_cases hlt2 : k < n
        · have hltz2 : (k : Int) < (n : Int) := by omega
          have x1 := HY.out k hlt2
          obtain ⟨bk, ok, ck, z0, _, _, _, z1⟩ := HC.out k hlt2
          have z2 := z1 i hlt
          have hok := okAt_iff R i k
          have HNO : Hid (okAt R i k = false → ANS = false) := hid (HF.out i k hlt hlt2)
          have HYES : Hid (okAt R i k = true → ∀ j < k + 1, okAt R i j = true) := hid (fun h j hj => by
            by_cases h' : j < k
            · exact hE2.out j h'
            · rw [show j = k by omega]; exact h)
          obtain ⟨x, hx⟩ : ∃ x, at2 R i k = x := ⟨_, rfl⟩
          obtain ⟨y, hy⟩ : ∃ y, at2 R k i = y := ⟨_, rfl⟩
          obtain ⟨OK, hOK⟩ : ∃ OK, okAt R i k = OK := ⟨_, rfl⟩
          have hxy : i = k → x = y := by rintro rfl; rw [← hx, ← hy]
          rw [hx] at x1
          rw [hy] at z2
          rw [hx, hy, hOK] at hok
          rw [hOK] at HNO HYES
          clear z1 hx hy hOK
          by_cases hik : i = k
          · have hikb : ((i : Int) == (k : Int)) = true := by simp [hik]
            by_cases h0 : x = 0
            · have h0b : (x != 0) = false := by simp [h0]
              have h1 : ¬ x < -1 := by omega
              have h2 : ¬ 24 < x := by omega
              have h3 : (x != y) = false := by simp; exact hxy hik
              have HOK := hid (HYES.out (hok.2 ⟨fun _ => h0, by omega, by omega, hxy hik⟩))
              clear hok hxy h0 hik HNO HYES
              go_wp2
              go_round
              case rel => exact ⟨k + 1, by go_num, by omega, HOK⟩
              case measure => simp [RowKit.intOf]; omega
            · have h0b : (x != 0) = true := by simp [h0]
              have HOK : Hid (ANS = false) := hid (HNO.out (Bool.eq_false_iff.2 fun e => h0 ((hok.1 e).1 hik)))
              clear hok hxy h0 hik HNO HYES
              go_wp2
              go_ret
              exact ⟨by rw [HOK.out]; rfl, rfl⟩
          · have hikb : ((i : Int) == (k : Int)) = false := by simp; omega
            by_cases h1 : x < -1
            · have HOK : Hid (ANS = false) := hid (HNO.out (Bool.eq_false_iff.2 fun e => by have := (hok.1 e).2.1; omega))
              clear hok hxy hik HNO HYES
              go_wp2
              go_ret
              exact ⟨by rw [HOK.out]; rfl, rfl⟩
            · by_cases h2 : 24 < x
              · have HOK : Hid (ANS = false) := hid (HNO.out (Bool.eq_false_iff.2 fun e => by have := (hok.1 e).2.2.1; omega))
                clear hok hxy hik HNO HYES
                go_wp2
                go_ret
                exact ⟨by rw [HOK.out]; rfl, rfl⟩
              · by_cases h3 : x = y
                · have h3b : (x != y) = false := by simp [h3]
                  have HOK := hid (HYES.out (hok.2 ⟨fun h => absurd h hik, by omega, by omega, h3⟩))
                  clear hok hxy h3 hik HNO HYES
                  go_wp2
                  go_round
                  case rel => exact ⟨k + 1, by go_num, by omega, HOK⟩
                  case measure => simp [RowKit.intOf]; omega
                · have h3b : (x != y) = true := by simp [h3]
                  have HOK : Hid (ANS = false) := hid (HNO.out (Bool.eq_false_iff.2 fun e => h3 (hok.1 e).2.2.2))
                  clear hok hxy h3 hik HNO HYES
                  go_wp2
                  go_ret
                  exact ⟨by rw [HOK.out]; rfl, rfl⟩
        · have hltz2 : ¬ (k : Int) < (n : Int) := by omega
          have HN : Hid (∀ a < i + 1, ∀ k < n, okAt R a k = true) := hid (fun a ha j hj => by
            by_cases h' : a < i
            · exact hE.out a h' j hj
            · rw [show a = i by omega]; exact hE2.out j (by omega))
          clear hE2
          go_wp2
          go_round
          case rel => exact ⟨i + 1, by go_num, by omega, HN⟩
          case measure => simp [RowKit.intOf]; omega
    · have hltz : ¬ (i : Int) < (n : Int) := by omega
      have HN := hid (HT.out fun a ha k hk => hE.out a (by omega) k hk)
      clear hE
      go_wp2
      go_ret
      exact ⟨by rw [HN.out]; rfl, rfl⟩
end Go.Proofs.YtocmbifljkcmeaaDoor

set_option linter.unusedVariables false
namespace Go.Proofs.YtocmbifljkcmeaaDoor
open Go Go.Proofs Go.RowKit Go.Lib

theorem StrsIn_take {w : World} {P : Nat → Prop} {A : Option Addr} {l : List Str} (h : S3.StrsIn w P A l) (k : Nat) : S3.StrsIn w P A (l.take k) := by
  rcases h with h | ⟨b, off, hA, hP, hc⟩
  · subst h; exact .inl (by simp)
  · refine .inr ⟨b, off, hA, hP, fun j s hj => hc j s ?_⟩
    rw [List.getElem?_take] at hj
    split at hj
    · exact hj
    · cases hj
/-- A table's box, of a call that began in w0. -/
structure KT (w0 : World) (v0 v1 : Value) (w : World) : Prop where
  x0 : w.cell? ⟨w0.heap.size, 0, none⟩ = some v0
  x1 : w.cell? ⟨w0.heap.size, 1, none⟩ = some v1
  lt : w0.heap.size < w.heap.size
  b : Below w0.heap.size w0 w
theorem KT.first (w : World) (v0 v1 : Value) (T : TypeId) : KT w v0 v1 (w.alloc (.cells #[v0, v1] T)) := by
  have e := heap_alloc_new w (.cells #[v0, v1] T)
  exact ⟨by rw [Lib.cell_of_heap e]; rfl, by rw [Lib.cell_of_heap e]; rfl, by simp, (Below.refl _ w).alloc (Nat.le_refl _) _⟩
theorem KT.next {w0 w w' : World} {v0 v1 : Value} (h : KT w0 v0 v1 w) (k : Below w.heap.size w w') : KT w0 v0 v1 w' :=
  ⟨(k.cell (p := ⟨w0.heap.size, 0, none⟩) h.lt).trans h.x0, (k.cell (p := ⟨w0.heap.size, 1, none⟩) h.lt).trans h.x1, Nat.lt_of_lt_of_le h.lt k.size, h.b.trans (k.mono h.b.size)⟩
theorem KT.drawn {w0 w : World} {v0 v1 : Value} (h : KT w0 v0 v1 w) (q : Nat) : KT w0 v0 v1 (w.drewN q) := h.next (S3.below_drewN (Below.refl _ _) q)
theorem drewN_stays' {w : World} {P : Nat → Prop} {A : Option Addr} {l : List Str} (h : S3.StrsIn w P A l) (q : Nat) : S3.StrsIn (w.drewN q) P A l := h.kept fun b _ => (Rolled.drawn (b + 1) w q).block b (by omega)

set_option maxHeartbeats 8000000 in
set_option maxRecDepth 100000 in
theorem tvalid_any (A S : Option Addr) (l : List Str) (R : List (List Int)) (c d : Nat) (w : World) (h : TravIn w (fun b => b < w.heap.size) A S (l, R)) (hc : l.length ≤ c) (hc2 : c ≤ 9223372036854775807) (h64 : R.length ≤ 9223372036854775807) :
    Calls Tryd.prog 10 #[.agg #[.slice A l.length c, .slice S R.length d]] w (Says (.int .i64 (validT (l, R))) w) := by
  unfold Says
  obtain ⟨ANS, hA⟩ : ∃ ANS, validT (l, R) = ANS := ⟨_, rfl⟩
  rw [hA]
  unfold validT at hA
  dsimp only at hA
  have hk := KT.first w (.slice A l.length c) (.slice S R.length d) 25
  have HH := hid h
  by_cases h8 : 8 < l.length
  · have h8z : (8 : Int) < (l.length : Int) := by omega
    rw [if_pos h8] at hA
    subst hA
    have HK := hid hk.b
    obtain ⟨x0, x1, _, _⟩ := hk
    clear h HH
    go_enter Tryd.func10, Tryd.ntmps10
    go_wp2
    go_ret
    exact ⟨rfl, HK.out⟩
  · have h8z : ¬ (8 : Int) < (l.length : Int) := by omega
    rw [if_neg h8] at hA
    have HS := hid (fun (w' : World) (hb : Below w.heap.size w w') => (h.below hb))
    have HK := hid hk
    have HA := hid hA
    have HE0 : Hid (bldE l (l.length - 0) 0 = bldM l) := hid rfl
    obtain ⟨E, hE⟩ : ∃ E, bldM l = E := ⟨_, rfl⟩
    rw [hE] at HA HE0
    obtain ⟨x0, x1, _, _⟩ := hk
    clear h hA HH hE
    go_enter Tryd.func10, Tryd.ntmps10
    go_wp2
    generalize w.alloc (.cells #[.slice A l.length c, .slice S R.length d] 25) = wb at HK x0 x1 ⊢
    go_loop [3, 4, 12] (fun _ _ iv => ∃ i : Nat, iv = .int .i64 (i : Int) ∧ i ≤ l.length ∧ Hid (bldE l (l.length - i) i = E)) (fun _ _ iv => l.length - (RowKit.intOf iv).toNat)
    case atStart => exact ⟨0, rfl, Nat.zero_le _, HE0⟩
    case round =>
      obtain ⟨i, rfl, hi, hE⟩ := hrel
      by_cases hlt : i < l.length
      · have hltz : (i : Int) < (l.length : Int) := by omega
        have hic : i ≤ c := by omega
        have hst := bldE_step l i hlt
        rw [hE.out] at hst
        have hin := (HS.out wb HK.out.b).b
        obtain ⟨b1, o1, rfl, _, y0⟩ := hin.at_ hlt
        have hg : l.getD i [] = l[i] := by simp [List.getD, List.getElem?_eq_getElem hlt]
        rw [hg] at hst
        have cV := fun w => S3.valid_any (ba l[i]) w
        rw [show (ba l[i]).data.toList = l[i] from rfl] at cV
        have cC := contains_any (some ⟨b1, o1, none⟩) (l.take i) c (ba l[i]) _ wb (StrsIn_take hin i) (by rw [List.length_take]; omega)
        rw [List.length_take, Nat.min_eq_left hi, lst_ba] at cC
        have e1 : S3.strV l[i] = .string (ba l[i]) := rfl
        rw [e1] at y0
        obtain ⟨V, hV⟩ : ∃ V, S3.validC l[i] = V := ⟨_, rfl⟩
        obtain ⟨D, hD⟩ : ∃ D, decide (l[i] ∈ l.take i) = D := ⟨_, rfl⟩
        rw [hV] at cV hst
        rw [hD] at cC
        obtain ⟨X, hX⟩ : ∃ X, ba l[i] = X := ⟨_, rfl⟩
        rw [hX] at cV cC y0
        have hdm : l[i] ∈ l.take i ↔ D = true := by rw [← hD]; simp
        simp only [hdm] at hst
        have CV := hid cV
        have CC := hid cC
        clear cV cC hV hD hX e1 hg hdm hin hE
        cases V with
        | false =>
          have HST : Hid (ANS = 10) := hid (by
            have h := HA.out
            rw [if_pos rfl] at hst
            subst hst
            rw [if_pos (by decide)] at h
            exact h.symm)
          clear hst
          go_wp2_with fail
          refine (CV.out _).mono ?_
          rintro e w' ⟨rfl, rfl⟩
          go_wp2
          go_ret
          exact ⟨by rw [HST.out]; rfl, HK.out.b⟩
        | true =>
          rw [if_neg (by simp)] at hst
          cases D with
          | true =>
            have HST : Hid (ANS = 11) := hid (by
              have h := HA.out
              rw [if_pos rfl] at hst
              subst hst
              rw [if_pos (by decide)] at h
              exact h.symm)
            clear hst
            go_wp2_with fail
            refine (CV.out _).mono ?_
            rintro e w' ⟨rfl, rfl⟩
            go_wp2_with fail
            refine CC.out.mono ?_
            rintro e w' ⟨rfl, rfl⟩
            go_wp2
            go_ret
            exact ⟨by rw [HST.out]; rfl, HK.out.b⟩
          | false =>
            rw [if_neg (by simp)] at hst
            have HST := hid hst.symm
            clear hst
            go_wp2_with fail
            refine (CV.out _).mono ?_
            rintro e w' ⟨rfl, rfl⟩
            go_wp2_with fail
            refine CC.out.mono ?_
            rintro e w' ⟨rfl, rfl⟩
            go_wp2
            go_round
            case rel => exact ⟨i + 1, by go_num, by omega, HST⟩
            case measure => simp [RowKit.intOf]; omega
      · have hltz : ¬ (i : Int) < (l.length : Int) := by omega
        have hst := bldE_end l i (by omega)
        rw [hE.out] at hst
        have hA := HA.out
        rw [if_neg (by omega)] at hA
        have cS := isSquare_any S R d l.length wb ((HS.out wb HK.out.b).s.mono fun b hb => Nat.lt_of_lt_of_le hb HK.out.b.size) h64 (by omega)
        unfold Says at cS
        have hE' : ∀ w', Below w.heap.size w w' → sqrB R l.length = true → Calls Tryd.prog 30 #[.slice S R.length d] w' fun e w'' => e = .returned (.bool (entsOk R l.length)) ∧ w' = w'' := fun w' hb hs => by
          have := areEntries_any S R d l.length _ w' (HS.out w' hb).s hs (by omega)
          rw [sqrB_len hs]
          exact this
        obtain ⟨Q, hQ⟩ : ∃ Q, sqrB R l.length = Q := ⟨_, rfl⟩
        rw [hQ] at cS hE' hA
        obtain ⟨O, hO⟩ : ∃ O, entsOk R l.length = O := ⟨_, rfl⟩
        rw [hO] at hE' hA
        have CS := hid cS
        have CE := hid hE'
        clear cS hE' hQ hO hst hE
        cases Q with
        | false =>
          rw [if_pos rfl] at hA
          subst hA
          go_wp2_with fail
          refine CS.out.mono ?_
          rintro e w1 ⟨rfl, hb⟩
          have HB := hid (HK.out.next hb).b
          clear hb
          go_wp2
          go_ret
          exact ⟨rfl, HB.out⟩
        | true =>
          rw [if_neg (by simp)] at hA
          cases O with
          | false =>
            rw [if_pos rfl] at hA
            subst hA
            go_wp2_with fail
            refine CS.out.mono ?_
            rintro e w1 ⟨rfl, hb⟩
            have hk1 := HK.out.next hb
            have HK1 := hid hk1
            have CE1 := hid (CE.out w1 hk1.b (by first | trivial | rfl))
            clear hb x0 x1
            obtain ⟨x0, x1, _, _⟩ := hk1
            go_wp2_with fail
            refine CE1.out.mono ?_
            rintro e w' ⟨rfl, rfl⟩
            go_wp2
            go_ret
            exact ⟨rfl, HK1.out.b⟩
          | true =>
            rw [if_neg (by simp)] at hA
            subst hA
            go_wp2_with fail
            refine CS.out.mono ?_
            rintro e w1 ⟨rfl, hb⟩
            have hk1 := HK.out.next hb
            have HK1 := hid hk1
            have CE1 := hid (CE.out w1 hk1.b (by first | trivial | rfl))
            clear hb x0 x1
            obtain ⟨x0, x1, _, _⟩ := hk1
            go_wp2_with fail
            refine CE1.out.mono ?_
            rintro e w' ⟨rfl, rfl⟩
            go_wp2
            go_ret
            exact ⟨rfl, HK1.out.b⟩
end Go.Proofs.YtocmbifljkcmeaaDoor

set_option linter.unusedVariables false
namespace Go.Proofs.YtocmbifljkcmeaaDoor
open Go Go.Proofs Go.RowKit Go.Lib

/-- The slice at A holds slices that hold the lists ls, all in blocks with P. -/
def RowsIn (w : World) (P : Nat → Prop) (A : Option Addr) (ls : List (List Str)) : Prop :=
  ls = [] ∨ ∃ b off, A = some ⟨b, off, none⟩ ∧ P b ∧ ∀ (j : Nat) (l : List Str), ls[j]? = some l → ∃ A' c', w.cell? ⟨b, off + j, none⟩ = some (.slice A' l.length c') ∧ l.length ≤ c' ∧ c' ≤ 9223372036854775807 ∧ S3.StrsIn w P A' l
theorem RowsIn.kept {w w' : World} {P : Nat → Prop} {A : Option Addr} {ls : List (List Str)} (h : RowsIn w P A ls) (hk : ∀ b, P b → w'.heap[b]? = w.heap[b]?) : RowsIn w' P A ls := by
  rcases h with h | ⟨b, off, hA, hP, hc⟩
  · exact .inl h
  · refine .inr ⟨b, off, hA, hP, fun j l hj => ?_⟩
    obtain ⟨A', c', h1, h2, h3, h4⟩ := hc j l hj
    exact ⟨A', c', (World.cell?_of_block (w := w) (hk b hP)).trans h1, h2, h3, h4.kept hk⟩
theorem RowsIn.mono {w : World} {P P' : Nat → Prop} {A : Option Addr} {l : List (List Str)} (h : RowsIn w P A l) (hP : ∀ b, P b → P' b) : RowsIn w P' A l := by
  rcases h with h | ⟨b, off, hA, hb, hc⟩
  · exact .inl h
  · refine .inr ⟨b, off, hA, hP b hb, fun j r hj => ?_⟩
    obtain ⟨A', c', h1, h2, h3, h4⟩ := hc j r hj
    exact ⟨A', c', h1, h2, h3, h4.mono hP⟩
theorem RowsIn.below {w w' : World} {B : Nat} {A : Option Addr} {l : List (List Str)} (h : RowsIn w (fun b => b < B) A l) (hb : Below B w w') : RowsIn w' (fun b => b < B) A l := h.kept fun b hB => hb.block b hB
theorem RowsIn.at_ {w : World} {P : Nat → Prop} {A : Option Addr} {ls : List (List Str)} (h : RowsIn w P A ls) {k : Nat} (hk : k < ls.length) :
    ∃ b off A' c', A = some ⟨b, off, none⟩ ∧ P b ∧ w.cell? ⟨b, off + k, none⟩ = some (.slice A' ls[k].length c') ∧ ls[k].length ≤ c' ∧ c' ≤ 9223372036854775807 ∧ S3.StrsIn w P A' ls[k] := by
  rcases h with h | ⟨b, off, hA, hP, hc⟩
  · subst h; simp at hk
  · obtain ⟨A', c', h1, h2, h3, h4⟩ := hc k _ (List.getElem?_eq_getElem hk)
    exact ⟨b, off, A', c', hA, hP, h1, h2, h3, h4⟩
end Go.Proofs.YtocmbifljkcmeaaDoor

set_option linter.unusedVariables false
namespace Go.Proofs.YtocmbifljkcmeaaDoor
open Go Go.Proofs Go.RowKit Go.Lib

theorem one_slice (A : Option Addr) (n c : Nat) : ∀ u ∈ [Value.slice A n c], u.oneCell' = true := by
  intro u hu
  rw [List.mem_singleton] at hu
  subst hu
  rfl
/-- What a call that makes a list of strings leaves behind. -/
def RowOut (l : List Str) (w : World) (e : Ending) (w' : World) : Prop := (∃ v, e = .returned v ∧ S3.StrRow w' w.heap.size v l) ∧ Below w.heap.size w w'
end Go.Proofs.YtocmbifljkcmeaaDoor

set_option linter.unusedVariables false
namespace Go.Proofs.YtocmbifljkcmeaaDoor
open Go Go.Proofs Go.RowKit Go.Lib

/-- A square table's cells, now and later. -/
theorem TabIn.sqB {w : World} {S : Option Addr} {R : List (List Int)} {n : Nat} (h : TabIn w (fun b => b < w.heap.size) S R) (hs : sqrB R n = true) (hn : 0 < n) :
    ∃ b off, S = some ⟨b, off, none⟩ ∧ b < w.heap.size ∧ ∀ i, i < n → ∃ bi oi ci, bi < w.heap.size ∧ ∀ w', Below w.heap.size w w' → w'.cell? ⟨b, off + i, none⟩ = some (.slice (some ⟨bi, oi, none⟩) n ci) ∧ ∀ k, k < n → w'.cell? ⟨bi, oi + k, none⟩ = some (.int .i64 (at2 R i k)) := by
  obtain ⟨b, off, hS, hb, hc⟩ := h.sq hs hn
  refine ⟨b, off, hS, hb, fun i hi => ?_⟩
  obtain ⟨bi, oi, ci, h1, h2, _, _, h3⟩ := hc i hi
  exact ⟨bi, oi, ci, h2, fun w' hw => ⟨(hw.cell (p := ⟨b, off + i, none⟩) hb).trans h1, fun k hk => (hw.cell (p := ⟨bi, oi + k, none⟩) h2).trans (h3 k hk)⟩⟩
section
variable {w0 : World} {v0 v1 : Value} {b1 oi ok : Nat} {X Y : Value} {bs os : Nat} {V : Value} {br or : Nat} {Z : Value} {w w' : World}
theorem KT.grown (h : KT w0 v0 v1 w) {row : Option Nat} (hg : w.grownBy w' row) (hr : ∀ k, row = some k → w0.heap.size + 1 ≤ k) : KT w0 v0 v1 w' := by
  have hlt := h.lt
  have kc : ∀ o : Nat, w'.cell? ⟨w0.heap.size, o, none⟩ = w.cell? ⟨w0.heap.size, o, none⟩ := fun o => World.cell?_of_block (hg.block w0.heap.size hlt (fun e => by have := hr _ e.symm; omega))
  exact ⟨(kc 0).trans h.x0, (kc 1).trans h.x1, Nat.lt_of_lt_of_le hlt hg.size, h.b.trans ((Below.refl _ w).grown hg h.b.size (fun k hk => by have := hr k hk; omega))⟩
end

end Go.Proofs.YtocmbifljkcmeaaDoor

