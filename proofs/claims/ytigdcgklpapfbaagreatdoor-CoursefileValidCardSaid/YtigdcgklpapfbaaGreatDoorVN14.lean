/-
  The program's Join: its contract (joinM). Conditions: the library's variables hold what its text lays; the list of strings lies in memory.
  Rooms as data: what is asked of one and of a list; the text of their times and their records; numbers of seats. No program.
  The text of a list of times: writeTimes of the program. Conditions: the times lie in memory, at most 24; the variables hold what their text lays.
  What the variables of the specification hold. No program.
  From a walk to a row, for every statement of this seat: a call that returns true and turns nothing that was there meets what a row asks. Condition: as the lemmas state.
-/
import Derived.Test.YtigdcgklpapfbaaGreatDoorVN01
import Derived.Test.YtigdcgklpapfbaaGreatDoorVN02
import Derived.Test.YtigdcgklpapfbaaGreatDoorVN03
import Derived.Test.YtigdcgklpapfbaaGreatDoorVN04
import Derived.Test.YtigdcgklpapfbaaGreatDoorVN05
import Derived.Test.YtigdcgklpapfbaaGreatDoorVN06
import Derived.Test.YtigdcgklpapfbaaGreatDoorVN07
import Derived.Test.YtigdcgklpapfbaaGreatDoorVN08
import Derived.Test.YtigdcgklpapfbaaGreatDoorVN09
import Derived.Test.YtigdcgklpapfbaaGreatDoorVN10
import Derived.Test.YtigdcgklpapfbaaGreatDoorVN11
import Derived.Test.YtigdcgklpapfbaaGreatDoorVN12
import Derived.Test.YtigdcgklpapfbaaGreatDoorVN13
import Derived.RangeFuncNested
import Derived.RangeFuncBound
import Derived.RangeFuncCalls
import Derived.RangeFuncLeaves
import Derived.Shelf.Abstract
import Derived.Shelf.RegionOpen
import Derived.OwnWalkIn
import Derived.Lib.Bytealg
import Derived.Lib.ItoaNum
import Derived.Lib.Atoi
import Derived.Lib.SlTrimSet
import Derived.Test.YtigdcgklpapfbaaGreatDoorProg
import Derived.WalkKit
import Derived.WalkSpells
import Derived.WalkLawsBesides
import Derived.Lib.Hide
import Derived.Deep.QuietTactic
import Derived.BigQuiet
import Derived.Laws.Rows
import Derived.OwnWalk
import Derived.Lib.BufferWrite
import Derived.Lib.UnsafeStr
import Derived.Laws.IdiomStrings
import Derived.Laws.BytesArg
import Derived.Laws.BytesString
import Derived.Shelf.Strings.Builder1
import Derived.Shelf.Strings.Builder2
import Derived.Shelf.Strings.OnBuilder
import Derived.Shelf.Strings.Trim
import Derived.Shelf.Small.Bits
import Derived.Shelf.Small.Strs
import Derived.Shelf.Small.Wraps
import Derived.Shelf.Strings.BuilderF
import Derived.Shelf.Strings.BuilderK
import Derived.Shelf.Strings.Builder2Cap
import Derived.Shelf.Strconv.Atoi
import Derived.Shelf.Strconv.Itoa0
import Derived.Shelf.Strconv.Itoa1
import Derived.Shelf.LaysM
import Derived.Shelf.Strconv.Itoa2
import Derived.Shelf.Strconv.Itoa3
import Derived.Shelf.Strconv.AtoiErrFast
import Derived.Shelf.Strconv.ParseIntEmpty
import Derived.Shelf.Strconv.AtoiFail
import Derived.Shelf.Strconv.Clone
import Derived.Shelf.Strconv.SyntaxError
import Derived.Shelf.LaysC
import Derived.Shelf.Strconv.ToError
import Derived.Shelf.Strconv.AtoiErr
import Derived.Shelf.Strings.Search1
import Derived.Shelf.Strings.Search2
import Derived.Shelf.Strings.Search3
import Derived.Shelf.Strings.Cut
import Derived.Shelf.Strings.Shaped
import Derived.Shelf.Strings.Prefix
import Derived.Shelf.Strings.Runes
import Derived.Shelf.Strings.AsciiSet
import Derived.Shelf.Bits.Mul64
import Derived.Shelf.Strings.Repeat
import Derived.Shelf.Unicode.DecodeSlow
import Derived.Shelf.Strings.BuilderCap
import Derived.Shelf.Slices.Turned
import Derived.Ground.SlgfProg
import Derived.Shelf.SlicesE.IndexFunc
import Derived.Shelf.Strings.SlTrimAscii
import Derived.Lib.AtoiErrMem
import Derived.Handy
import Derived.Laws.ResultCell
import Derived.RegionTactic
import Derived.Lib.Repeat
import Derived.Deep.RegionHeld3
import Derived.Laws.OwnMore
import Derived.Lib.SlicesS
import Derived.Lib.IndexLaws
import Derived.TacticsInMore
import Derived.LoopNIn
import Derived.LoopIn
import Derived.Deep.DeepCutAuto
import Derived.Lib.Join
import Derived.Laws.Concat
import Derived.Laws.BitsAllLaws
import Derived.Laws.BitsLemmas
import Derived.Deep.MidRow
import Derived.Deep.RegionLaw
import Derived.Test.YtigdcgklpapfbaaGreatDoorCards
import Derived.Test.YtigdcgklpapfbaaGreatDoorTie
import Derived.Lib.SmallJoins
import Derived.SizedLaws
import Derived.Stop.LaidErr
import Derived.Deep.DeepWitnessRowRef
import Derived.ProofKit
import Derived.OpenShut
import Derived.Deep.DeepHandedRow
import Derived.Deep.DeepLaidRun
import Derived.Lib.LaidU8
import Derived.Shelf.Vars
set_option linter.unusedVariables false
namespace Go.Proofs.YtigdcgklpapfbaaGreatDoor.S3
open Go Go.Proofs Go.RowKit Go.Lib

theorem joinP_fuel : ∀ (n : Nat) (l : List Str) (k : Nat), l.length ≤ n → l.length ≤ k → joinP k l = joinP n l
  | 0, l, k, h, _ => by
    obtain rfl : l = [] := List.eq_nil_of_length_eq_zero (by omega)
    cases k <;> rfl
  | n + 1, [], k, _, _ => by cases k <;> rfl
  | n + 1, f :: r, 0, _, h => by simp at h
  | n + 1, f :: r, k + 1, h1, h2 => by
    simp only [List.length_cons] at h1 h2
    have hp := ahead_pos f r
    have ih1 := joinP_fuel n ((f :: r).drop (aheadM (f :: r))) k (by simp; omega) (by simp; omega)
    have ih2 := joinP_fuel n r k (by omega) (by omega)
    simp only [joinP]
    rw [ih1, ih2]
/-- The parts of a list's text. -/
def partsL (l : List Str) : List Str := joinP l.length l
theorem partsL_nil : partsL [] = [] := rfl
theorem partsL_range (f : Str) (r : List Str) (h : 3 ≤ aheadM (f :: r)) : partsL (f :: r) = rangeT f (aheadM (f :: r)) :: partsL ((f :: r).drop (aheadM (f :: r))) := by
  unfold partsL
  show joinP (r.length + 1) (f :: r) = _
  simp only [joinP]
  rw [if_pos h]
  congr 1
  have hp := ahead_pos f r
  exact joinP_fuel _ _ _ (Nat.le_refl _) (by simp; omega)
theorem partsL_one (f : Str) (r : List Str) (h : ¬ 3 ≤ aheadM (f :: r)) : partsL (f :: r) = f :: partsL r := by
  unfold partsL
  show joinP (r.length + 1) (f :: r) = _
  simp only [joinP]
  rw [if_neg h]
theorem partsL_len : ∀ (n : Nat) (l : List Str), l.length ≤ n → (partsL l).length ≤ l.length
  | 0, l, h => by
    obtain rfl : l = [] := List.eq_nil_of_length_eq_zero (by omega)
    simp [partsL_nil]
  | n + 1, [], _ => by simp [partsL_nil]
  | n + 1, f :: r, h => by
    simp only [List.length_cons] at h
    have hp := ahead_pos f r
    by_cases h3 : 3 ≤ aheadM (f :: r)
    · rw [partsL_range f r h3]
      have := partsL_len n ((f :: r).drop (aheadM (f :: r))) (by simp; omega)
      simp at this ⊢
      omega
    · rw [partsL_one f r h3]
      have := partsL_len n r (by omega)
      simp
      omega
theorem semi_join : ∀ l : List Str, Lib.join l [59] = semi l
  | [] => rfl
  | [p] => by rw [Lib.join_one]; rfl
  | p :: q :: r => by
    have ih := semi_join (q :: r)
    rw [Lib.join_cons] at ih ⊢
    show p ++ Lib.joinTail [59] (q :: r) = p ++ 59 :: semi (q :: r)
    rw [← ih]
    simp [Lib.joinTail]
theorem semi_len : ∀ (l : List Str), (∀ p ∈ l, p.length ≤ 40) → (semi l).length ≤ 41 * l.length
  | [], _ => by simp [semi]
  | [p], h => by have := h p (.head _); simp [semi]; omega
  | p :: q :: r, h => by
    have ih := semi_len (q :: r) (fun x hx => h x (.tail _ hx))
    have := h p (.head _)
    show (p ++ 59 :: semi (q :: r)).length ≤ _
    simp at ih ⊢
    omega
theorem parts_short : ∀ (n : Nat) (l : List Str), l.length ≤ n → (∀ c ∈ l, validC c = true) → ∀ p ∈ partsL l, p.length ≤ 40
  | 0, l, h, _, p, hp => by
    obtain rfl : l = [] := List.eq_nil_of_length_eq_zero (by omega)
    simp [partsL_nil] at hp
  | n + 1, [], _, _, p, hp => by simp [partsL_nil] at hp
  | n + 1, f :: r, h, hv, p, hp => by
    simp only [List.length_cons] at h
    have hpos := ahead_pos f r
    by_cases h3 : 3 ≤ aheadM (f :: r)
    · rw [partsL_range f r h3] at hp
      rcases List.mem_cons.1 hp with rfl | hp
      · have hnv : validC (nthS f (aheadM (f :: r) - 1)) = true := by
          have := ahead_nth f r (aheadM (f :: r) - 2) (by omega)
          rw [show aheadM (f :: r) - 2 + 1 = aheadM (f :: r) - 1 by omega] at this
          exact hv _ (List.mem_cons_of_mem _ (List.mem_of_getElem? this))
        have h1 := validC_len (hv f (.head _))
        have h2 := validC_len hnv
        unfold rangeT
        simp
        omega
      · exact parts_short n _ (by simp; omega) (fun c hc => hv c (List.mem_of_mem_drop hc)) p hp
    · rw [partsL_one f r h3] at hp
      rcases List.mem_cons.1 hp with rfl | hp
      · have := validC_len (hv p (.head _)); omega
      · exact parts_short n r (by omega) (fun c hc => hv c (.tail _ hc)) p hp

def sliceLen : Value → Nat | .slice _ n _ => n | _ => 0
/-- What Join hands back. -/
def JoinOut (l : List Str) (w : World) (e : Ending) (w' : World) : Prop :=
  e = .returned (.tuple #[.string (ba (if checkM l = 0 then joinM l else [])), .int .i64 (checkM l)]) ∧ Below w.heap.size w w'
theorem ba_app (a b : Str) : ba a ++ ba b = ba (a ++ b) := by
  apply ByteArray.ext
  simp [ba]
theorem ba_size (a : Str) : (ba a).size = a.length := by
  show a.toArray.size = _
  simp
theorem StrsIn.rest {w : World} {P : Nat → Prop} {A : Option Addr} {l : List Str} (h : StrsIn w P A l) (n c : Nat) (hlc : l.length ≤ c) : StrsIn w P (if c = n then A else A.map (·.add n)) (l.drop n) := by
  by_cases hn : n < l.length
  · rw [if_neg (by omega)]
    rcases h with h | ⟨b, off, rfl, hP, hc⟩
    · subst h; simp at hn
    · refine .inr ⟨b, off + n, by rw [Option.map_some, Addr.add_lit], hP, fun j s hj => ?_⟩
      rw [List.getElem?_drop] at hj
      rw [show off + n + j = off + (n + j) by omega]
      exact hc _ _ hj
  · exact .inl (List.drop_of_length_le (by omega))

theorem strs_rest {w : World} {P : Nat → Prop} {b off : Nat} {l : List Str} (h : StrsIn w P (some ⟨b, off, none⟩) l) (n c : Nat) (hlc : l.length ≤ c) : StrsIn w P (if c = n then some ⟨b, off, none⟩ else some ⟨b, off + n, none⟩) (l.drop n) := by
  have := h.rest n c hlc
  rwa [Option.map_some, Addr.add_lit] at this

set_option maxHeartbeats 8000000 in
set_option maxRecDepth 100000 in
theorem cjoin_any (A : Option Addr) (l : List Str) (c : Nat) (w : World) (h : StrsIn w (fun b => b < w.heap.size) A l) (hlc : l.length ≤ c) (hc : c ≤ 9223372036854775807) (hE : Env w) :
    Calls Tryz.prog 99 #[.slice A l.length c] w (JoinOut l w) := by
  have cC := hid (check_any A l c _ w h hlc hc)
  by_cases hk : checkM l = 0
  · obtain ⟨h64, hv⟩ := check_valid hk
    have HV := hid hv
    unfold JoinOut
    rw [if_pos hk, hk]
    rw [hk] at cC
    have H : Hid (∀ w' : World, Below w.heap.size w w' → StrsIn w' (fun b => b < w.heap.size) A l) := hid (fun w' hb => h.kept (fun b hlt => hb.block b hlt))
    have HE := hid hE
    have HS : Hid (joinM l = semi (partsL l)) := hid rfl
    have HP4 := hid (parts_short _ l (Nat.le_refl _) hv)
    have HPL := hid (partsL_len _ l (Nat.le_refl _))
    rw [HS.out]
    obtain ⟨i9, hi9, hz9, hsi9, hby9⟩ := info_parts infoStr
    clear h hv hE hk
    go_enter Tryz.func99, Tryz.ntmps99
    go_wp2_with fail
    refine cC.out.mono ?_
    rintro e w1 ⟨rfl, rfl⟩
    go_wp2_with fail
    go_loopw [0, 5] (fun sv v wr => ∃ (n c' : Nat) (A' : Option Addr) (ps : List Str), sv = .slice A' (l.drop n).length c' ∧ Hid (StrsIn wr (fun b => b < w.heap.size) A' (l.drop n)) ∧ (l.drop n).length ≤ c' ∧ c' ≤ 9223372036854775807 ∧ n ≤ l.length ∧ Hid (partsL l = ps ++ partsL (l.drop n)) ∧ StrRow wr w.heap.size v ps ∧ Hid (Below w.heap.size w wr)) (fun sv _ _ => sliceLen sv)
    case atStart => exact ⟨0, c, A, [], rfl, hid (H.out w (Below.refl _ _)), hlc, hc, by omega, hid rfl, World.ownsRow_nil _ _ _ _, hid (Below.refl _ _)⟩
    case round =>
      obtain ⟨n, c', A', ps, rfl, hIn, hlc', hc', hn, hps, hrow, hB⟩ := hrel
      obtain ⟨Ar, cr, rfl⟩ := row_slice hrow
      have HRow := hid hrow
      have HE1 := hid (HE.out.below hB.out)
      clear hrow
      have hpl : ps.length + (partsL (l.drop n)).length ≤ 64 := by
        have h1 := HPL.out
        have h2 := congrArg List.length hps.out
        rw [List.length_append] at h2
        omega
      cases hr : l.drop n with
      | nil =>
        rw [hr] at hps hIn hlc' hpl
        have HPS : Hid (partsL l = ps) := hid (by rw [hps.out, partsL_nil, List.append_nil])
        clear hr hps
        obtain ⟨A5, c5, eA, hl5, hc5, hI5⟩ := HRow.out.strsIn
        have hA5 : Hid (Ar = A5 ∧ cr = c5) := hid (by injection eA with e1 _ e3; exact ⟨e1, e3⟩)
        obtain ⟨rfl, rfl⟩ := hA5.out
        have cJ : Hid (Calls Tryz.prog 98 #[.slice Ar ps.length cr, .string ⟨#[59]⟩] wr fun e w' => e = .returned (.string (ba (semi ps))) ∧ Below wr.heap.size wr w') := hid (by
          rcases hI5 with h | ⟨b, off, rfl, hb, hcell⟩
          · subst h
            exact (Tryz.strings_Join_none Ar cr ⟨#[59]⟩ wr).mono fun e w' ⟨h1, h2⟩ => ⟨h1, h2 ▸ Below.refl _ _⟩
          · have hj := Tryz.strings_Join b off cr (ps.map ba) ⟨#[59]⟩ wr (fun j x hx => by
              rw [List.getElem?_map] at hx
              obtain ⟨y, hy, rfl⟩ := Option.map_eq_some_iff.1 hx
              exact hcell j y hy) hb.2 (by simp; omega) (by simpa using hl5) (by
              have e : (ps.map ba).map (·.data.toList) = ps := by simp [Function.comp_def, ba]
              rw [e, show (⟨#[59]⟩ : ByteArray).data.toList = [59] from rfl, semi_join]
              have := semi_len ps (fun p hp => HP4.out p (by rw [HPS.out]; exact hp))
              omega)
            have e : (ps.map ba).map (·.data.toList) = ps := by simp [Function.comp_def, ba]
            rw [e, show (⟨#[59]⟩ : ByteArray).data.toList = [59] from rfl, semi_join, List.length_map] at hj
            exact hj)
        clear eA hA5 hI5 hl5 hc5 hlc' hIn
        go_wp2_with fail
        refine cJ.out.mono ?_
        rintro e w2 ⟨rfl, hb2⟩
        have HB2 := hid (hB.out.trans (hb2.mono hB.out.size))
        clear hb2
        go_wp2_with fail
        go_ret2
        exact ⟨by rw [HPS.out]; rfl, HB2.out⟩
      | cons f r =>
        rw [hr] at hps hIn hlc' hpl
        have hdl : l.length - n = r.length + 1 := by
          have := congrArg List.length hr
          simpa using this
        have hvf : ∀ x ∈ f :: r, validC x = true := fun x hx => HV.out x (List.mem_of_mem_drop (by rw [hr]; exact hx))
        have hf16 := validC_len (hvf f (.head _))
        have hdd : ∀ j, (f :: r).drop j = l.drop (n + j) := fun j => by rw [← hr, List.drop_drop]
        have cA := hid (ahead_any A' f r c' (fun b => b < w.heap.size) wr hIn.out (fun b hb => Nat.lt_of_lt_of_le hb hB.out.size) (by omega) hf16 HE1.out)
        obtain ⟨b, off, rfl, hbl, hcell⟩ : ∃ b off, A' = some ⟨b, off, none⟩ ∧ b < w.heap.size ∧ ∀ (j : Nat) (s : Str), (f :: r)[j]? = some s → wr.cell? ⟨b, off + j, none⟩ = some (.string (ba s)) := by
          rcases hIn.out with h | h
          · cases h
          · exact h
        have hpos := ahead_pos f r
        have hR := partsL_range f r
        have hO := partsL_one f r
        have hnth := ahead_nth f r
        obtain ⟨run, hrun⟩ : ∃ run, aheadM (f :: r) = run := ⟨_, rfl⟩
        rw [hrun] at cA hpos hR hO hnth
        have hc0 := hcell 0 f rfl
        rw [Nat.add_zero] at hc0
        have HCELL := hid hcell
        have HR := hid hR
        have HO := hid hO
        have HNTH := hid hnth
        have HDD := hid hdd
        have HVF := hid hvf
        clear hcell hR hO hnth hdd hrun hr hvf
        go_wp2_with fail
        refine cA.out.mono ?_
        rintro e w2 ⟨rfl, hb2⟩
        have HB2 := hid (hB.out.trans (hb2.mono hB.out.size))
        have HIn2 : Hid (StrsIn w2 (fun b => b < w.heap.size) (some ⟨b, off, none⟩) (f :: r)) := hid (hIn.out.kept (fun b' hb' => hb2.block b' (Nat.lt_of_lt_of_le hb' hB.out.size)))
        have HRow2 : Hid (StrRow w2 w.heap.size _ ps) := hid (row_under HRow.out hb2)
        have HC2 : Hid (∀ (j : Nat) (s : Str), (f :: r)[j]? = some s → w2.cell? ⟨b, off + j, none⟩ = some (.string (ba s))) := hid (fun j s hj => (hb2.cell (p := ⟨b, off + j, none⟩) (Nat.lt_of_lt_of_le hbl hB.out.size)).trans (HCELL.out j s hj))
        clear hb2 cA HCELL HE1 HRow hIn hB
        by_cases h3 : 3 ≤ run
        · have hX : (f :: r)[run - 1]? = some (nthS f (run - 1)) := by
            have := HNTH.out (run - 2) (by omega)
            rw [show run - 2 + 1 = run - 1 by omega] at this
            rw [show run - 1 = run - 2 + 1 by omega, List.getElem?_cons_succ, this, show run - 2 + 1 = run - 1 by omega]
          have hXv := validC_len (HVF.out _ (List.mem_of_getElem? hX))
          have hcX := HC2.out _ _ hX
          have hc0' := HC2.out 0 f rfl
          rw [Nat.add_zero] at hc0'
          have HRT : Hid (rangeT f run = f ++ 46 :: 46 :: nthS f (run - 1)) := hid rfl
          obtain ⟨X, hXe⟩ : ∃ X, nthS f (run - 1) = X := ⟨_, rfl⟩
          rw [hXe] at hXv hcX HRT
          have add1 : ∀ w, (Op.stringOp .add (ba f) ⟨#[46, 46]⟩).run Tryz.prog w = .ok (.string (ba f ++ ⟨#[46, 46]⟩)) w := fun w => run_string_add_sum (w := w) _ _ (by rw [ba_size]; have : (⟨#[46, 46]⟩ : ByteArray).size = 2 := rfl; omega)
          have add2 : ∀ w, (Op.stringOp .add (ba f ++ ⟨#[46, 46]⟩) (ba X)).run Tryz.prog w = .ok (.string (ba f ++ ⟨#[46, 46]⟩ ++ ba X)) w := fun w => run_string_add_sum (w := w) _ _ (by rw [ByteArray.size_append, ba_size, ba_size]; have : (⟨#[46, 46]⟩ : ByteArray).size = 2 := rfl; omega)
          have hT : ba f ++ ⟨#[46, 46]⟩ ++ ba X = ba (rangeT f run) := by
            rw [HRT.out, show (⟨#[46, 46]⟩ : ByteArray) = ba [46, 46] from rfl, ba_app, ba_app]
            simp
          rw [hT] at add2
          obtain ⟨T, hTe⟩ : ∃ T, rangeT f run = T := ⟨_, rfl⟩
          rw [hTe] at add2
          have HT := hid hTe
          have h3z : (3 : Int) ≤ (run : Int) := by omega
          have q1 : IntKind.i64.wrap ((run : Int) - 1) = (run : Int) - 1 := IntWalk.i64_in _ (by omega)
          have q2 : (1 : Int) ≤ (run : Int) := by omega
          have q3 : ((run : Int) - 1).toNat = run - 1 := by omega
          have q4 : (run : Int) - 1 < (r.length : Int) + 1 := by omega
          clear hX hXe hT hTe
          go_wp2_with fail
          go_quiet (fail)
          have hd2 : Below w2.heap.size w2 (w2.drewN nq) := below_drewN (Below.refl _ _) nq
          have HB3 : Hid (Below w.heap.size w (w2.drewN nq)) := hid (below_drewN HB2.out nq)
          have HIn3 : Hid (StrsIn (w2.drewN nq) (fun b => b < w.heap.size) (some ⟨b, off, none⟩) (f :: r)) := hid (HIn2.out.kept (fun b' hb' => hd2.block b' (Nat.lt_of_lt_of_le hb' HB2.out.size)))
          have HRow3 : Hid (StrRow (w2.drewN nq) w.heap.size _ ps) := hid (row_under HRow2.out hd2)
          clear hd2 HB2 HIn2 HRow2 HC2 hc0' hcX add1 add2
          generalize w2.drewN nq = w3 at HB3 HIn3 HRow3 ⊢
          have HC3 : Hid (ps.length + 1 ≤ maxLen) := by unfold maxLen; exact hid (by omega)
          have HC4 : Hid ((ps.length + 1) * 16 ≤ 140737488355328) := hid (by omega)
          have HC5 : Hid (∀ o : Obj, w.heap.size ≤ (w3.alloc o).heap.size) := hid (fun o => by have := HB3.out.size; simp; omega)
          go_wp2_with (at_builtin; refine wpList_append_own _ rfl _ _ 30 rfl w.heap.size 9 i9 (.string ⟨#[]⟩) 1 16 Tryz.underlying30 hi9 hz9 hsi9 hby9 rfl (by decide) _ ps.length (strVals ps) rfl (World.ownsRow.alloc HRow3.out _) ⟨w3.heap.size, 0, none⟩ 1 1 [.string (ba T)] rfl rfl (one_new _ _ _) (one_str _) HC3.out HC4.out (HC5.out _) ?_)
          intro v' w4 hown' hgrow _
          have hg' := grownBy_of_alloc hgrow
          have hb24 : Below w.heap.size w3 w4 := (Below.refl _ w3).grown hg' HB3.out.size (fun k hk => (World.ownsRow.lt HRow3.out k hk).1)
          have HB4 := hid (HB3.out.trans hb24)
          have HIn4 : Hid (StrsIn w4 (fun b => b < w.heap.size) (if c' = run then some ⟨b, off, none⟩ else some ⟨b, off + run, none⟩) ((f :: r).drop run)) := hid (strs_rest (HIn3.out.kept (fun b' hb' => hb24.block b' hb')) run c' hlc')
          have HOwn := hid hown'
          clear hb24 hg' hgrow hown'
          go_wp2_with fail
          go_roundw
          case rel =>
            have hr1 : l.drop (n + run) = (f :: r).drop run := (HDD.out run).symm
            have hr2 : (l.drop (n + run)).length = r.length + 1 - run := by rw [hr1]; simp
            refine ⟨n + run, c' - run, _, ps ++ [T], by rw [hr2], hid (by rw [hr1]; exact HIn4.out), by rw [hr2]; simp at hlc'; omega, by omega, by omega, hid (by rw [hr1, hps.out, HR.out h3, HT.out]; simp), ?_, HB4⟩
            unfold StrRow
            rw [strVals_app, List.length_append]
            exact HOwn.out
          case measure => simp [sliceLen]; omega
        · have h3z : ¬ (3 : Int) ≤ (run : Int) := by omega
          have hc0' := HC2.out 0 f rfl
          rw [Nat.add_zero] at hc0'
          have HC3 : Hid (ps.length + 1 ≤ maxLen) := by unfold maxLen; exact hid (by omega)
          have HC4 : Hid ((ps.length + 1) * 16 ≤ 140737488355328) := hid (by omega)
          have HC5 : Hid (∀ o : Obj, w.heap.size ≤ (w2.alloc o).heap.size) := hid (fun o => by have := HB2.out.size; simp; omega)
          go_wp2_with (at_builtin; refine wpList_append_own _ rfl _ _ 30 rfl w.heap.size 9 i9 (.string ⟨#[]⟩) 1 16 Tryz.underlying30 hi9 hz9 hsi9 hby9 rfl (by decide) _ ps.length (strVals ps) rfl (World.ownsRow.alloc HRow2.out _) ⟨w2.heap.size, 0, none⟩ 1 1 [.string (ba f)] rfl rfl (one_new _ _ _) (one_str _) HC3.out HC4.out (HC5.out _) ?_)
          intro v' w4 hown' hgrow _
          have hg' := grownBy_of_alloc hgrow
          have hb24 : Below w.heap.size w2 w4 := (Below.refl _ w2).grown hg' HB2.out.size (fun k hk => (World.ownsRow.lt HRow2.out k hk).1)
          have HB4 := hid (HB2.out.trans hb24)
          have HIn4 : Hid (StrsIn w4 (fun b => b < w.heap.size) (if c' = 1 then some ⟨b, off, none⟩ else some ⟨b, off + 1, none⟩) ((f :: r).drop 1)) := hid (strs_rest (HIn2.out.kept (fun b' hb' => hb24.block b' hb')) 1 c' hlc')
          have HOwn := hid hown'
          clear hb24 hg' hgrow hown'
          go_wp2_with fail
          go_roundw
          case rel =>
            have hr1 : l.drop (n + 1) = r := (HDD.out 1).symm
            refine ⟨n + 1, c' - 1, _, ps ++ [f], by rw [hr1], hid (by rw [hr1]; exact HIn4.out), by rw [hr1]; simp at hlc'; omega, by omega, by omega, hid (by rw [hr1, hps.out, HO.out h3]; simp), ?_, HB4⟩
            unfold StrRow
            rw [strVals_app, List.length_append]
            exact HOwn.out
          case measure => simp [sliceLen]
  · unfold JoinOut
    rw [if_neg hk]
    have hkz : (checkM l == 0) = false := by simpa using hk
    have hkz' : (checkM l != 0) = true := by simpa using hk
    generalize checkM l = K at cC hkz hkz'
    clear h hE hk
    go_enter Tryz.func99, Tryz.ntmps99
    go_wp2_with fail
    refine cC.out.mono ?_
    rintro e w1 ⟨rfl, rfl⟩
    go_wp2_with fail
    go_ret2
    exact ⟨rfl, Below.refl _ _⟩
end Go.Proofs.YtigdcgklpapfbaaGreatDoor.S3

set_option linter.unusedVariables false
namespace Go.Proofs.YtigdcgklpapfbaaGreatDoor
open Go Go.Proofs Go.RowKit Go.Lib

/-- Strictly ascending. -/
def risesL : List Str → Bool
  | a :: b :: r => decide (a < b) && risesL (b :: r)
  | _ => true
/-- Codes in ascending order. -/
def featB (l : List Str) : Bool := l.all S3.validC && risesL l
def codesR (l : List RoomD) : List Str := l.map (·.1)
/-! ### ascending -/
theorem rises_iff : ∀ l : List Str, risesL l = true ↔ ∀ i (h : i + 1 < l.length), l[i] < l[i + 1]
  | [] => by simp [risesL]
  | [a] => by simp [risesL]
  | a :: b :: r => by
    rw [risesL, Bool.and_eq_true, decide_eq_true_eq, rises_iff (b :: r)]
    constructor
    · rintro ⟨h1, h2⟩ i hi
      cases i with
      | zero => exact h1
      | succ i => exact h2 i (by simpa using hi)
    · intro h
      exact ⟨h 0 (by simp), fun i hi => h (i + 1) (by simpa using hi)⟩
theorem rises_false (l : List Str) (i : Nat) (h : i + 1 < l.length) (hn : ¬ l[i] < l[i + 1]) : risesL l = false := by
  cases hr : risesL l with
  | false => rfl
  | true => exact absurd ((rises_iff l).1 hr i h) hn
/-- So far: the first i are codes in ascending order. -/
def featTo (l : List Str) (i : Nat) : Prop := (∀ j (h : j < l.length), j < i → S3.validC l[j] = true) ∧ ∀ j (h : j + 1 < l.length), j + 1 < i → l[j] < l[j + 1]
theorem featTo_all (l : List Str) (h : featTo l l.length) : featB l = true := by
  unfold featB
  rw [Bool.and_eq_true, List.all_eq_true, rises_iff]
  refine ⟨fun x hx => ?_, fun i hi => h.2 i hi hi⟩
  obtain ⟨j, hj, rfl⟩ := List.mem_iff_getElem.1 hx
  exact h.1 j hj hj
theorem featTo_step (l : List Str) (i : Nat) (hi : i < l.length) (h : featTo l i) (hv : S3.validC l[i] = true) (hr : ∀ k (hk : k + 1 = i), l[k]'(by omega) < l[i]) : featTo l (i + 1) := by
  refine ⟨fun j hj hji => ?_, fun j hj hji => ?_⟩
  · by_cases e : j = i
    · subst e; exact hv
    · exact h.1 j hj (by omega)
  · by_cases e : j + 1 = i
    · subst e; exact hr j rfl
    · exact h.2 j hj (by omega)
theorem featB_bad_code (l : List Str) (i : Nat) (hi : i < l.length) (hv : S3.validC l[i] = false) : featB l = false := by
  cases hr : featB l with
  | false => rfl
  | true =>
    unfold featB at hr
    rw [Bool.and_eq_true, List.all_eq_true] at hr
    rw [hr.1 _ (List.getElem_mem hi)] at hv
    cases hv
theorem featB_bad_order (l : List Str) (i : Nat) (hi : i + 1 < l.length) (hn : ¬ l[i] < l[i + 1]) : featB l = false := by
  unfold featB
  rw [rises_false l i hi hn, Bool.and_false]

/-! ### texts -/
def timeS (d s b m n : Int) (t : TimeD) : Str := (textT d s b m n t.1 t.2.1 t.2.2.1 t.2.2.2).1
/-! ### numbers of at most so many digits -/
def numD (D : Nat) (s : Str) : Nat := if s ≠ [] ∧ s.length ≤ D ∧ s.all S3.dg = true ∧ s.head? ≠ some 48 then S3.numN s else 0
end Go.Proofs.YtigdcgklpapfbaaGreatDoor

set_option linter.unusedVariables false
namespace Go.Proofs.YtigdcgklpapfbaaGreatDoor
open Go Go.Proofs Go.RowKit Go.Lib

/-- What the package-level variables hold. -/
structure Env7 (w : World) : Prop where
  e : Env w
  s : S3.Env w
  d : Days w
theorem Env7.below {w w' : World} (h : Env7 w) {B : Nat} (hb : Below B w w') (hB : w.heap.size ≤ B) : Env7 w' := by
  have hsz := h.e.size
  have hb' : Below w.heap.size w w' := hb.mono hB
  exact ⟨h.e.below hb' hsz, h.s.below hb', h.d.below hb' hsz⟩
theorem timeS_len (d s b m n : Int) (t : TimeD) : (timeS d s b m n t).length ≤ 300 := by
  unfold timeS textT
  split
  · exact time_len
  · simp
theorem semi_len300 : ∀ (l : List Str), (∀ p ∈ l, p.length ≤ 300) → (S3.semi l).length ≤ 301 * l.length
  | [], _ => by simp [S3.semi]
  | [p], h => by have := h p (.head _); simp [S3.semi]; omega
  | p :: q :: r, h => by
    have ih := semi_len300 (q :: r) (fun x hx => h x (.tail _ hx))
    have := h p (.head _)
    show (p ++ 59 :: S3.semi (q :: r)).length ≤ _
    simp at ih ⊢
    omega
/-- Join of a slice of strings of the call's own. -/
theorem joinRow (A : Option Addr) (ps : List Str) (c B : Nat) (w : World) (h : S3.StrRow w B (.slice A ps.length c) ps) (hp : ∀ p ∈ ps, p.length ≤ 300) (hn : ps.length ≤ 1000) :
    Calls Tryz.prog 98 #[.slice A ps.length c, .string ⟨#[59]⟩] w fun e w' => e = .returned (.string (ba (S3.semi ps))) ∧ Below w.heap.size w w' := by
  obtain ⟨A5, c5, eA, hl5, hc5, hI5⟩ := h.strsIn
  obtain ⟨rfl, rfl⟩ : A = A5 ∧ c = c5 := by injection eA with e1 _ e3; exact ⟨e1, e3⟩
  rcases hI5 with h | ⟨b, off, rfl, hb, hcell⟩
  · subst h
    exact (Tryz.strings_Join_none A c ⟨#[59]⟩ w).mono fun e w' ⟨h1, h2⟩ => ⟨h1, h2 ▸ Below.refl _ _⟩
  · have e : (ps.map ba).map (·.data.toList) = ps := by simp [Function.comp_def, ba]
    have hj := Tryz.strings_Join b off c (ps.map ba) ⟨#[59]⟩ w (fun j x hx => by
      rw [List.getElem?_map] at hx
      obtain ⟨y, hy, rfl⟩ := Option.map_eq_some_iff.1 hx
      exact hcell j y hy) hb.2 (by simp; omega) (by simpa using hl5) (by
      rw [e, show (⟨#[59]⟩ : ByteArray).data.toList = [59] from rfl, S3.semi_join]
      have := semi_len300 ps hp
      omega)
    rw [e, show (⟨#[59]⟩ : ByteArray).data.toList = [59] from rfl, S3.semi_join, List.length_map] at hj
    exact hj

end Go.Proofs.YtigdcgklpapfbaaGreatDoor

set_option linter.unusedVariables false
namespace Go.Proofs.YtigdcgklpapfbaaGreatDoor
open Go Go.Proofs Go.RowKit Go.Lib

structure REnv7 (w : World) : Prop where
  wd : Words w
  d : RDays w
  z : 8 < w.heap.size
theorem REnv7.below {w w' : World} (h : REnv7 w) {B : Nat} (hb : Below B w w') (hB : w.heap.size ≤ B) : REnv7 w' := by
  have hz := h.z
  have hb' : Below w.heap.size w w' := hb.mono hB
  exact ⟨h.wd.below hb' hz, h.d.below hb' hz, Nat.lt_of_lt_of_le hz hb.size⟩
end Go.Proofs.YtigdcgklpapfbaaGreatDoor

set_option linter.unusedVariables false
namespace Go.Proofs.YtigdcgklpapfbaaGreatDoor
open Go Go.Proofs Go.ChangeShapes Go.WideShapes Go.ChangeAt Go.RowKit

section
variable {H : Type} {enc : TypeId × Value → H} {P : Program}
/-- Arguments below the heap's old size read as they did. -/
theorem trodAll_stays (hl : laidOutB P = true) {W W' : World} (hb : Below W.heap.size W W') {sp : Nat → Bool} : ∀ {ts : List TypeId} {vs : List Value} {ds : List (DataW H)} {ps : List MemPlace},
    (∀ t ∈ ts, P.readableRec t = true ∧ t < P.types.size) → DataW.TrodAll enc P W 0 (fun _ => true) true ts vs ds ps → (∀ x ∈ ps, x.block < W.heap.size) → (∀ x ∈ ps, sp x.block = true) → DataW.TrodAll enc P W' 0 sp true ts vs ds ps
  | [], vs, ds, ps, _, h, _, _ => by
    obtain ⟨rfl, rfl, rfl⟩ := trodAll_nil h
    exact trodAll_mk0
  | t :: ts, vs, ds, ps, ht, h, hlt, hsp => by
    obtain ⟨v, vs', d, ds', p, q, rfl, rfl, rfl, h0, hr⟩ := trodAll_cons h
    have hp : ∀ x ∈ p, x.block < W.heap.size := fun x hx => hlt x (List.mem_append.2 (.inl hx))
    refine trodAll_cons_mk (WideElems.Trod_stays hl (ht t (by simp)).1 (ht t (by simp)).2 h0 (fun x hx => hb.same (hp x hx)) (fun x hx => hsp x (List.mem_append.2 (.inl hx)))) ?_
    exact trodAll_stays hl hb (fun t' h' => ht t' (by simp [h'])) hr (fun x hx => hlt x (List.mem_append.2 (.inr hx))) (fun x hx => hsp x (List.mem_append.2 (.inr hx)))

/-- The law's end. -/
theorem law_post {f : Func} {s : ChangeSpec} {apart fresh again : Bool} {tb : TypeId} {W W' : World} {args : Array Value} {ds gs : List (DataW H)} {before : List MemPlace}
    (hl : laidOutB P = true) (hts : ∀ t ∈ f.params.toList, P.readableRec t = true ∧ t < P.types.size) (hres : f.resultTypes = #[tb]) (htb : P.underlying tb = some .bool)
    (hvars : s.vars = []) (hfn : s.fn H (ds ++ gs) = { results := [.lit (.bool true)], args := ds, vars := [] })
    (hW : DataW.Whole enc P f.params.toList s.vars apart W args.toList ds gs before) (hb : Below W.heap.size W W') :
    s.post enc P f apart fresh false again W args (.bool true) W' := by
  have hlt : ∀ p ∈ before, p.block < W.heap.size := fun p hp => hW.lt p hp
  have hW0 := hW
  obtain ⟨p, q, hA, hV, hpq, hz, hn⟩ := hW0
  rw [hvars] at hV
  obtain ⟨rfl, rfl⟩ := trodVars_none hV
  rw [List.append_nil] at hpq
  subst hpq
  have hr : ∀ (b : Nat) (sp : Nat → Bool) (hd : Bool), DataW.TrodAll enc P W' b sp hd f.resultTypes.toList ((Value.bool true).resultList f.resultTypes.size) (s.fn H (ds ++ [])).results [] := fun b sp hd => by
    rw [hres, hfn]
    exact trodAll_cons_mk (shut_bool htb true) trodAll_mk0
  have ha : ∀ sp : Nat → Bool, (∀ x ∈ before, sp x.block = true) → DataW.TrodAll enc P W' 0 sp true f.params.toList args.toList (s.fn H (ds ++ [])).args before := fun sp hsp => by
    rw [hfn]
    exact trodAll_stays hl hb hts hA hlt hsp
  have hold : ∀ x ∈ before, (fun b => decide (b < W.heap.size)) x.block = true := fun x hx => by simpa using hlt x hx
  have hvs : ∀ sp : Nat → Bool, DataW.TrodVars enc P W' sp s.vars (s.fn H (ds ++ [])).vars [] := fun sp => by
    rw [hvars, hfn]
    exact rfl
  refine ⟨ds, [], before, [], before, [], hW, hr _ _ _, ha _ hold, hvs _, World.keptBut_mono (fun x hx => ⟨hx, .inr (.inl hx)⟩) (hb.frame (· ∈ before)), fun _ => ?_⟩
  refine ⟨?_, _, _, ([] ++ before) ++ [], ⟨[] ++ before, [], trodAll_append (ha _ (fun _ _ => rfl)) (hr _ _ _), hvs _, rfl, ?_, ?_⟩, ?_⟩
  · intro j t r hj hr'
    rw [hres] at hj hr'
    match j, hj, hr' with
    | 0, hj, hr' =>
      simp at hj
      subst hj
      obtain rfl : (Value.bool true) = r := by simpa [Value.resultList] using hr'
      exact okWide_bool_mk htb true
    | j + 1, hj, _ => simp at hj
  · intro b off hp
    have hin : MemPlace.cell b off ∈ before := by simpa using hp
    rw [hb.frozen (hlt _ hin)]
    exact hz b off hin
  · intro h
    simpa using hn h
  · intro x hx _
    simpa using hx
end

theorem own : ownKnob Tryz.prog.godebug = none := by kernel_rfl
theorem laidOut : laidOutB Tryz.prog = true := by kernel_rfl
theorem row3 : Tryz.prog.readableRec 3 = true ∧ 3 < Tryz.prog.types.size := ⟨by kernel_rfl, of_decide_eq_true (by kernel_rfl)⟩
theorem rowClasses : Tryz.prog.readableRec 22 = true ∧ 22 < Tryz.prog.types.size := ⟨by kernel_rfl, of_decide_eq_true (by kernel_rfl)⟩
theorem rowGrid : Tryz.prog.readableRec 24 = true ∧ 24 < Tryz.prog.types.size := ⟨by kernel_rfl, of_decide_eq_true (by kernel_rfl)⟩
theorem uErr : Tryz.prog.underlying 177 = some (.interface #[("Error", 180)]) := by kernel_rfl
theorem star : "*" ++ "errors.errorString" = "*errors.errorString" := by decide
theorem rowPtr (u : TypeId) (h : Tryz.prog.typeName? 3 u = some "*errors.errorString") : u = 298 :=
  typeName_ptr_named (nm := "errors.errorString") (by rw [star]; kernel_rfl) (by kernel_rfl) (by decide) u (by rw [star]; exact h)
theorem gSyn : Tryz.prog.globalNamed "strconv.ErrSyntax" = some 8 := by kernel_rfl
theorem gWords : Tryz.prog.globalNamed "timetable/timetableref05.words" = some 1 := by kernel_rfl
theorem gNames : Tryz.prog.globalNamed "timetable/weekset.names" = some 5 := by kernel_rfl
theorem gDays : Tryz.prog.globalNamed "timetable/timegrid.days" = some 4 := by kernel_rfl
theorem gRDays : Tryz.prog.globalNamed "timetable/timetableref06.days" = some 2 := by kernel_rfl
section
variable {H : Type} {enc : TypeId × Value → H} {w : World} {base : Nat} {sp : Nat → Bool} {held : Bool}
theorem take1 {cs : List Value} {k : Nat} {v : Value} (h : (cs.drop k).take 1 = [v]) : cs[k]? = some v := by
  have := congrArg (·[0]?) h
  simpa [List.getElem?_take, List.getElem?_drop] using this
theorem word_cell {fuel : Nat} {cs : List Value} {p : List MemPlace} (h : DataW.trod enc Tryz.prog w base sp held fuel 113 cs = some (Rows.laid_timetable_timetableref05_words, p)) (k : Nat) (hk : k < 5) : cs[k]? = some (.string ⟨(wordS k).toArray⟩) := by
  obtain ⟨f', d, q, hd, ht⟩ := Lib.array_elem Tryz.underlying113 h k hk
  rw [show Tryz.prog.cellsOf 9 = 1 by kernel_rfl, Nat.mul_one] at ht
  obtain ⟨s, hcs, hx, _⟩ := DataW.trod_string Tryz.underlying9 ht
  rw [take1 hcs]
  injection hx with hx _
  subst hx
  have e : lst s = wordS k := by
    rcases (show k = 0 ∨ k = 1 ∨ k = 2 ∨ k = 3 ∨ k = 4 by omega) with rfl | rfl | rfl | rfl | rfl
    all_goals
      injection hd with hd
      injection hd with hd
      injection hd with hd
      exact hd.symm
  rw [ba_of e]
  rfl
theorem name_cells {fuel : Nat} {cs : List Value} {d : List (DataW H)} {p : List MemPlace} {T : Str} {m : Int} {a b : Bool} (h : DataW.trod enc Tryz.prog w base sp held fuel 208 cs = some (.agg d, p)) (hd : d = [.lit (.string T), .lit (.int .i64 m), .lit (.bool a), .lit (.bool b)]) :
    cs = [.string ⟨T.toArray⟩, .int .i64 m, .bool a, .bool b] := by
  obtain ⟨y0, y1, y2, y3, n, hx, hl, h0, h1, h2, h3⟩ := Joins.trod_struct4 Tryz.underlying208 h
  rw [show Tryz.prog.cellsOf 208 = 4 by kernel_rfl] at hl
  dsimp only at h0 h1 h2 h3
  rw [show Tryz.prog.cellsOf 9 = 1 by kernel_rfl] at h0
  rw [show Tryz.prog.cellsOf 3 = 1 by kernel_rfl] at h1
  rw [show Tryz.prog.cellsOf 4 = 1 by kernel_rfl] at h2 h3
  obtain ⟨s, hc0, rfl, _⟩ := DataW.trod_string Tryz.underlying9 h0
  obtain ⟨z, hc1, rfl, _⟩ := DataW.trod_int Tryz.underlying3 h1
  obtain ⟨x, hc2, rfl⟩ := DataW.trod_bool Tryz.underlying4 h2
  obtain ⟨y, hc3, rfl⟩ := DataW.trod_bool Tryz.underlying4 h3
  rw [hd] at hx
  simp only [Prod.mk.injEq, DataW.agg.injEq, List.cons.injEq, DataW.lit.injEq, Lit.string.injEq, Lit.int.injEq, Lit.bool.injEq, true_and, and_true] at hx
  obtain ⟨⟨hT, rfl, rfl, rfl⟩, _⟩ := hx
  have e : (⟨T.toArray⟩ : ByteArray) = s := by rw [hT]
  rw [e]
  match cs, hl with
  | [c0, c1, c2, c3], _ =>
    have := take1 hc0
    have := take1 hc1
    have := take1 hc2
    have := take1 hc3
    simp_all
theorem name_cell {fuel : Nat} {cs : List Value} {p : List MemPlace} (h : DataW.trod enc Tryz.prog w base sp held fuel 209 cs = some (Rows.laid_timetable_weekset_names, p)) (k : Nat) (hk : k < 5) : (cs.drop (k * 4)).take 4 = (nv k).toList := by
  obtain ⟨f', d, q, hd, ht⟩ := Lib.array_elem Tryz.underlying209 h k hk
  rw [show Tryz.prog.cellsOf 208 = 4 by kernel_rfl] at ht
  rcases (show k = 0 ∨ k = 1 ∨ k = 2 ∨ k = 3 ∨ k = 4 by omega) with rfl | rfl | rfl | rfl | rfl
  all_goals
    injection hd with hd
    rw [← hd] at ht
    exact name_cells ht rfl
theorem day_cell {fuel : Nat} {cs : List Value} {p : List MemPlace} (h : DataW.trod enc Tryz.prog w base sp held fuel 115 cs = some (Rows.laid_timetable_timegrid_days, p)) (k : Nat) (hk : k < 7) : cs[k]? = some (.string (ba (dayS k))) := by
  obtain ⟨f', d, q, hd, ht⟩ := Lib.array_elem Tryz.underlying115 h k hk
  rw [show Tryz.prog.cellsOf 9 = 1 by kernel_rfl, Nat.mul_one] at ht
  obtain ⟨s, hcs, hx, _⟩ := DataW.trod_string Tryz.underlying9 ht
  rw [take1 hcs]
  injection hx with hx _
  subst hx
  have e : lst s = dayS k := by
    rcases (show k = 0 ∨ k = 1 ∨ k = 2 ∨ k = 3 ∨ k = 4 ∨ k = 5 ∨ k = 6 by omega) with rfl | rfl | rfl | rfl | rfl | rfl | rfl
    all_goals
      injection hd with hd
      injection hd with hd
      injection hd with hd
      exact hd.symm
  rw [ba_of e]
theorem rday_cell {fuel : Nat} {cs : List Value} {p : List MemPlace} (h : DataW.trod enc Tryz.prog w base sp held fuel 115 cs = some (Rows.laid_timetable_timetableref06_days, p)) (k : Nat) (hk : k < 7) : cs[k]? = some (.string (ba (dayS k))) := by
  obtain ⟨f', d, q, hd, ht⟩ := Lib.array_elem Tryz.underlying115 h k hk
  rw [show Tryz.prog.cellsOf 9 = 1 by kernel_rfl, Nat.mul_one] at ht
  obtain ⟨s, hcs, hx, _⟩ := DataW.trod_string Tryz.underlying9 ht
  rw [take1 hcs]
  injection hx with hx _
  subst hx
  have e : lst s = dayS k := by
    rcases (show k = 0 ∨ k = 1 ∨ k = 2 ∨ k = 3 ∨ k = 4 ∨ k = 5 ∨ k = 6 by omega) with rfl | rfl | rfl | rfl | rfl | rfl | rfl
    all_goals
      injection hd with hd
      injection hd with hd
      injection hd with hd
      exact hd.symm
  rw [ba_of e]
end
theorem nameCells_at : ∀ (j : Nat) (v : Value), nameCells[j]? = some v → j / 4 < 5 ∧ (nv (j / 4)).toList[j % 4]? = some v := by
  intro j v h
  have hj : j < 20 := (List.getElem?_eq_some_iff.1 h).1
  rcases (show j = 0 ∨ j = 1 ∨ j = 2 ∨ j = 3 ∨ j = 4 ∨ j = 5 ∨ j = 6 ∨ j = 7 ∨ j = 8 ∨ j = 9 ∨ j = 10 ∨ j = 11 ∨ j = 12 ∨ j = 13 ∨ j = 14 ∨ j = 15 ∨ j = 16 ∨ j = 17 ∨ j = 18 ∨ j = 19 by omega) with rfl | rfl | rfl | rfl | rfl | rfl | rfl | rfl | rfl | rfl | rfl | rfl | rfl | rfl | rfl | rfl | rfl | rfl | rfl | rfl
  all_goals exact ⟨by decide, h⟩
/-- The variable ErrSyntax holds an error. -/
theorem errSyntax_ofL {W : World} {L : List (String × DataW Unit)} (hL : laidMet Tryz.prog (("strconv.ErrSyntax", Rows.laid_strconv_ErrSyntax) :: L) W) : ∃ ev, W.cell? ⟨8, 0, none⟩ = some ev ∧ (ev = .nilIface ∨ ∃ te pe, ev = .iface te pe) := by
  obtain ⟨a, s, hv, _⟩ := laid_sentinel hL gSyn (ti := 177) (tp := 298) (te := 300) (ts := 9) (f := { name := "s", type := 9, offset := 0, embedded := false, tag := "", pkgPath := "errors", byteOffset := 0 }) (ms := #[("Error", 180)]) (by kernel_rfl) uErr rowPtr (by kernel_rfl) (by kernel_rfl) rfl rfl (by kernel_rfl) (by kernel_rfl) (by kernel_rfl)
  exact ⟨_, World.var?_cell gSyn hv 0, .inr ⟨_, _, rfl⟩⟩
theorem names_ofL {W : World} {L : List (String × DataW Unit)} (hL : laidMet Tryz.prog L W) (hm : ("timetable/weekset.names", (Rows.laid_timetable_weekset_names : DataW Unit)) ∈ L) : Names W := by
  obtain ⟨g, t, cs, fuel, p, hg, hty, hvar, hd⟩ := Lib.laidMet.reads hL hm
  obtain rfl := Option.some.inj (gNames.symm.trans hg)
  obtain rfl := Option.some.inj ((show (Tryz.prog.globals[5]?).map (·.type) = some 209 by kernel_rfl).symm.trans hty)
  intro j v hj
  rw [World.var?_cell gNames hvar j, ← Array.getElem?_toList]
  obtain ⟨h5, hv⟩ := nameCells_at j v hj
  rw [← name_cell hd (j / 4) h5, List.getElem?_take, if_pos (by omega), List.getElem?_drop, show j / 4 * 4 + j % 4 = j by omega] at hv
  exact hv
theorem words_ofL {W : World} {L : List (String × DataW Unit)} (hL : laidMet Tryz.prog L W) (hm : ("timetable/timetableref05.words", (Rows.laid_timetable_timetableref05_words : DataW Unit)) ∈ L) : Words W := by
  obtain ⟨g, t, cs, fuel, p, hg, hty, hvar, hd⟩ := Lib.laidMet.reads hL hm
  obtain rfl := Option.some.inj (gWords.symm.trans hg)
  obtain rfl := Option.some.inj ((show (Tryz.prog.globals[1]?).map (·.type) = some 113 by kernel_rfl).symm.trans hty)
  intro k hk
  rw [World.var?_cell gWords hvar k, ← Array.getElem?_toList]
  exact word_cell hd k hk
theorem days_ofL {W : World} {L : List (String × DataW Unit)} (hL : laidMet Tryz.prog L W) (hm : ("timetable/timegrid.days", (Rows.laid_timetable_timegrid_days : DataW Unit)) ∈ L) : Days W := by
  obtain ⟨g, t, cs, fuel, p, hg, hty, hvar, hd⟩ := Lib.laidMet.reads hL hm
  obtain rfl := Option.some.inj (gDays.symm.trans hg)
  obtain rfl := Option.some.inj ((show (Tryz.prog.globals[4]?).map (·.type) = some 115 by kernel_rfl).symm.trans hty)
  intro j v hj
  have hj7 : j < 7 := (List.getElem?_eq_some_iff.1 hj).1
  rw [World.var?_cell gDays hvar j, ← Array.getElem?_toList, day_cell hd j hj7, ← hj]
  rcases (show j = 0 ∨ j = 1 ∨ j = 2 ∨ j = 3 ∨ j = 4 ∨ j = 5 ∨ j = 6 by omega) with rfl | rfl | rfl | rfl | rfl | rfl | rfl <;> rfl
theorem rdays_ofL {W : World} {L : List (String × DataW Unit)} (hL : laidMet Tryz.prog L W) (hm : ("timetable/timetableref06.days", (Rows.laid_timetable_timetableref06_days : DataW Unit)) ∈ L) : RDays W := by
  obtain ⟨g, t, cs, fuel, p, hg, hty, hvar, hd⟩ := Lib.laidMet.reads hL hm
  obtain rfl := Option.some.inj (gRDays.symm.trans hg)
  obtain rfl := Option.some.inj ((show (Tryz.prog.globals[2]?).map (·.type) = some 115 by kernel_rfl).symm.trans hty)
  intro j v hj
  have hj7 : j < 7 := (List.getElem?_eq_some_iff.1 hj).1
  rw [World.var?_cell gRDays hvar j, ← Array.getElem?_toList, rday_cell hd j hj7, ← hj]
  rcases (show j = 0 ∨ j = 1 ∨ j = 2 ∨ j = 3 ∨ j = 4 ∨ j = 5 ∨ j = 6 by omega) with rfl | rfl | rfl | rfl | rfl | rfl | rfl <;> rfl
theorem maxLen_of {W : World} (h : W.ShapedOpen Tryz.prog) : ∃ m, W.cell? ⟨7, 0, none⟩ = some (.int .i64 m) :=
  cell_of_shapedOpen_int (t := 3) (zero := #[.int .i64 0]) h (of_decide_eq_true (by kernel_rfl)) (by kernel_rfl) rfl (by kernel_rfl) (by kernel_rfl) Tryz.underlying3
theorem env_ofL {W : World} (h : Names W) (he : ∃ ev, W.cell? ⟨8, 0, none⟩ = some ev ∧ (ev = .nilIface ∨ ∃ te pe, ev = .iface te pe)) : Env W := by
  obtain ⟨ev, h1, h2⟩ := he
  exact ⟨h, ⟨ev, h1, h2⟩, World.block_lt_of_cell? W _ h1⟩
theorem env3_ofL {W : World} {L : List (String × DataW Unit)} (hL : laidMet Tryz.prog L W) (hm : ("internal/strconv.uint64pow10", (Rows.laid_internal_strconv_uint64pow10 : DataW Unit)) ∈ L) (hsh : W.ShapedOpen Tryz.prog) (he : ∃ ev, W.cell? ⟨8, 0, none⟩ = some ev ∧ (ev = .nilIface ∨ ∃ te pe, ev = .iface te pe)) : S3.Env W := by
  refine ⟨maxLen_of hsh, he, ?_, by obtain ⟨ev, h1, _⟩ := he; exact World.block_lt_of_cell? W _ h1⟩
  obtain ⟨g, t, cs, fuel, p, hg, hty, hvar, hd⟩ := Lib.laidMet.reads hL hm
  obtain rfl := Option.some.inj (S3.gTab.symm.trans hg)
  obtain rfl := Option.some.inj ((show (Tryz.prog.globals[6]?).map (·.type) = some 243 by kernel_rfl).symm.trans hty)
  have hcs := Lib.cells_of_tab (n := 20) (e := 202) (zs := Lib.pow10Tab) (k := .u64) (by kernel_rfl) (by kernel_rfl) (by kernel_rfl) (by kernel_rfl) hd
  unfold Lib.TabIs
  rw [hvar, ← hcs]
theorem env7_ofL {W : World} {L : List (String × DataW Unit)} (hL : laidMet Tryz.prog L W) (hsh : W.ShapedOpen Tryz.prog) (hn : ("timetable/weekset.names", (Rows.laid_timetable_weekset_names : DataW Unit)) ∈ L) (hd : ("timetable/timegrid.days", (Rows.laid_timetable_timegrid_days : DataW Unit)) ∈ L)
    (hp : ("internal/strconv.uint64pow10", (Rows.laid_internal_strconv_uint64pow10 : DataW Unit)) ∈ L) (he : ∃ ev, W.cell? ⟨8, 0, none⟩ = some ev ∧ (ev = .nilIface ∨ ∃ te pe, ev = .iface te pe)) : Env7 W :=
  ⟨env_ofL (names_ofL hL hn) he, env3_ofL hL hp hsh he, days_ofL hL hd⟩
theorem renv7_ofL {W : World} {L : List (String × DataW Unit)} (hL : laidMet Tryz.prog L W) (hw : ("timetable/timetableref05.words", (Rows.laid_timetable_timetableref05_words : DataW Unit)) ∈ L) (hr : ("timetable/timetableref06.days", (Rows.laid_timetable_timetableref06_days : DataW Unit)) ∈ L)
    (he : ∃ ev, W.cell? ⟨8, 0, none⟩ = some ev ∧ (ev = .nilIface ∨ ∃ te pe, ev = .iface te pe)) : REnv7 W :=
  ⟨words_ofL hL hw, rdays_ofL hL hr, by obtain ⟨ev, h1, _⟩ := he; exact World.block_lt_of_cell? W _ h1⟩
/-- A world in which the variables hold what their initialisers lay. -/
def cellsOfAgg : DataW Unit → Array Value
  | .agg l => (l.map fun | .lit (.int k z) => Value.int k z | _ => undef).toArray
  | _ => #[]
def acceptCells : Array Value := ((List.range 16).flatMap fun i => [Value.int .u8 (Lib.accLo i), Value.int .u8 (Lib.accHi i)]).toArray
def firstCells : Array Value := ((List.range 256).map fun b => Value.int .u8 (Lib.firstT b)).toArray
noncomputable def laidWorld (os : Os) : World :=
  let N := (World.settled Tryz.prog os).heap.size
  let w0 := World.holding Tryz.prog os ⟨#[.cells #[.string ⟨#[105, 110, 118, 97, 108, 105, 100, 32, 115, 121, 110, 116, 97, 120]⟩] 300, .cells #[.string ⟨#[118, 97, 108, 117, 101, 32, 111, 117, 116, 32, 111, 102, 32, 114, 97, 110, 103, 101]⟩] 300, .cells #[.string ⟨#[97, 100, 97]⟩, .string ⟨#[98, 111, 98]⟩, .string ⟨#[99, 121]⟩] 9, .cells #[.string ⟨#[98, 101, 97, 109, 101, 114]⟩, .string ⟨#[108, 97, 98]⟩, .string ⟨#[112, 105, 97, 110, 111]⟩] 9], #[], []⟩
  let put (h : Array Obj) (g : Nat) (cs : Array Value) : Array Obj := h.modify g fun
    | .cells _ t frozen => .cells cs t frozen
    | o => o
  let h3 := put (put (put (put (put (put (put (put (put (put (put (put (put (w0.heap) 1 #[.string ⟨#[97, 108, 108]⟩, .string ⟨#[111, 100, 100]⟩, .string ⟨#[101, 118, 101, 110]⟩, .string ⟨#[102, 105, 114, 115, 116]⟩, .string ⟨#[115, 101, 99, 111, 110, 100]⟩]) 5 nameCells.toArray) 4 dayCells.toArray) 2 dayCells.toArray) 12 firstCells) 13 acceptCells) 8 #[.iface 298 (.pointer (some ⟨N, 0, none⟩))]) 9 #[.iface 298 (.pointer (some ⟨N + 1, 0, none⟩))]) 6 (cellsOfAgg Rows.laid_internal_strconv_uint64pow10)) 10 (cellsOfAgg Rows.laid_math_bits_deBruijn32tab)) 11 (cellsOfAgg Rows.laid_math_bits_deBruijn64tab)) 0 #[.slice (some ⟨N + 2, 0, none⟩) 3 3]) 3 #[.slice (some ⟨N + 3, 0, none⟩) 3 3]
  { w0 with heap := h3 }
end Go.Proofs.YtigdcgklpapfbaaGreatDoor

